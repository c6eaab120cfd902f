/- The contract of the reference's Give. -/
import Derived.Test.YtchladbjhodkoaaOwMore
import Derived.Test.YtchladbjhodkoaaOwJoin
import Derived.Test.YtchladbjhodkoaaOwOf
import Derived.Test.YtchladbjhodkoaaSpNorm
namespace Go.Proofs.Ytchladbjhodkoaa
open Go.RowKit

theorem ints_cellAt {w : World} {a : Option Addr} {cap : Nat} {l : List Int} (h : Ints w a cap l) {k : Nat} (hk : k < l.length) :
    ∃ b off, a = some ⟨b, off, none⟩ ∧ b < w.heap.size ∧ w.cell? ⟨b, off + k, none⟩ = some (.int .i64 (l.getD k 0)) := by
  obtain ⟨_, _, h3⟩ := h
  rcases h3 with rfl | ⟨b, off, ha, hb, hc⟩
  · simp at hk
  · exact ⟨b, off, ha, hb, hc k hk⟩

/-- what a loop from mark to mark has put together. -/
def Grown (w1 : World) (g : Int → Option Ow.O) (M : List Int) (k : Nat) (sv : Value) (L : List Ow.C) (wr : World) : Prop :=
  wr.ownsRow w1.heap.size 49 4 sv L.length (flat4 L) ∧ Below w1.heap.size w1 wr ∧ (M ≠ [] → k < M.length ∧ Ow.Told g L (M.getD k 0)) ∧ (M = [] → k = 0 ∧ L = [])

theorem Grown.start {w1 : World} {g : Int → Option Ow.O} {M : List Int} (hm : Ow.Marks M g) : Grown w1 g M 0 (.slice none 0 0) [] w1 := by
  refine ⟨World.ownsRow_nil _ _ _ _, Below.refl _ _, fun hne => ⟨List.length_pos_iff.2 hne, ?_⟩, fun h => ⟨rfl, rfl⟩⟩
  rcases hm.start with h | h
  · exact h
  · exact absurd h hne

theorem Grown.len {w1 wr : World} {g : Int → Option Ow.O} {M : List Int} {k : Nat} {sv : Value} {L : List Ow.C} (h : Grown w1 g M k sv L wr) : L.length ≤ 16384 := by
  by_cases hM : M = []
  · rw [(h.2.2.2 hM).2]; simp
  · exact (h.2.2.1 hM).2.1.len

/-- one mark further, with nothing put behind. -/
theorem Grown.skip {w1 wr w2 : World} {g : Int → Option Ow.O} {M : List Int} {k : Nat} {sv : Value} {L : List Ow.C} (hm : Ow.Marks M g) (h : Grown w1 g M k sv L wr) (hk : k + 1 < M.length) (hg : g (M.getD k 0) = none) (hb : Below wr.heap.size wr w2) : Grown w1 g M (k + 1) sv L w2 := by
  have hM : M ≠ [] := fun e => by rw [e] at hk; simp at hk
  exact ⟨owns_below h.1 hb, h.2.1.trans (hb.mono h.2.1.size), fun _ => ⟨hk, hm.skip hk (h.2.2.1 hM).2 hg⟩, fun e => absurd e hM⟩

/-- .. with a claim put behind. -/
theorem Grown.put {w1 wr w2 w3 : World} {g : Int → Option Ow.O} {M : List Int} {k : Nat} {sv v' : Value} {L : List Ow.C} {n e : Int} {en : Ending} (hm : Ow.Marks M g) (h : Grown w1 g M k sv L wr) (hk : k + 1 < M.length) (hg : g (M.getD k 0) = some (n, e)) (hb : Below wr.heap.size wr w2)
    (ho : MoreOut w2 w1.heap.size sv L ⟨M.getD k 0, M.getD (k + 1) 0 - 1, n, e⟩ en w3) (he : en = .returned v') : ∃ L', Grown w1 g M (k + 1) v' L' w3 := by
  have hM : M ≠ [] := fun e => by rw [e] at hk; simp at hk
  obtain ⟨v'', e'', h1, h2, h3⟩ := ho
  rw [he] at e''
  cases e''
  have hb2 : Below w1.heap.size w1 w2 := h.2.1.trans (hb.mono h.2.1.size)
  refine ⟨_, h1, hb2.trans (h2.below hb2.size fun j hj e => ?_), fun _ => ⟨hk, hm.put hk (h.2.2.1 hM).2 hg⟩, fun e => absurd e hM⟩
  have := (h.1.lt j e.symm).1
  omega

theorem Grown.fin {w1 wr : World} {g : Int → Option Ow.O} {M : List Int} {k : Nat} {sv : Value} {L : List Ow.C} (hm : Ow.Marks M g) (h : Grown w1 g M k sv L wr) (hk : ¬ k + 1 < M.length) : Ow.Told g L 16384 := by
  by_cases hM : M = []
  · rw [(h.2.2.2 hM).2]
    subst hM
    exact hm.empty
  · exact hm.stop (h.2.2.1 hM).1 hk (h.2.2.1 hM).2

theorem marksG_ints {w : World} {a : Option Addr} {cap : Nat} {M : List Int} (h : IntsN w a cap M) : M.length ≤ cap := h.1.1

set_option maxRecDepth 100000 in
set_option maxHeartbeats 8000000 in
theorem refGive_any (a1 a2 : Option Addr) (cap1 cap2 : Nat) (la : List Ow.C) (s : List Sp.S) (n e : Int) (w : World) (hn : 0 ≤ n ∧ n < 8 ∧ 1 ≤ e ∧ e ≤ 9007199254740992) (hva : Ow.VL la) (hl : s.length ≤ 100000) (hA : Cls w a1 cap1 la) (hS : Spans w a2 cap2 s) :
    Calls Try.prog 24 #[.slice a1 la.length cap1, .slice a2 s.length cap2, .int .i64 n, .int .i64 e] w (OwOut (giveF la s n e) w) := by
  have HN := Lib.hid (refNorm_any a2 cap2 s w hl hS)
  have hms := Sp.mixS_spec 0 s []
  have hml := mixS_len 0 s [] (by simpa using hl)
  have HMK := Lib.hid (Ow.marks_give (n := n) (e := e) hva hms.1 hn)
  have HG : Hid (∀ k, 0 ≤ k → k < 16384 → (if Sp.hasB (Sp.mixS 0 s []) k then some (n, e) else Ow.own la k) = giveF la s n e k) := Lib.hid fun k h0 h1 => by
    rw [hms.2, giveF]
    have : (Sp.cnd 0 (Sp.hasB s k) (Sp.hasB [] k)) = Sp.hasB s k := by simp [Sp.cnd, Sp.hasB]
    rw [this]
    simp only [h0, h1, and_self, decide_true, Bool.true_and]
  have hvx := hms.1
  have hla := hva.len
  have HVX := Lib.hid hvx.1
  have HV := Lib.hid hva
  have HA := Lib.hid hA
  obtain ⟨x, hx⟩ : ∃ x, Sp.mixS 0 s [] = x := ⟨_, rfl⟩
  have HNX : Hid (Calls Try.prog 31 #[.slice a2 s.length cap2] w fun e w' => ∃ a cap, e = .returned (.slice a x.length cap) ∧ Spans w' a cap x ∧ Below w.heap.size w w') := Lib.hid (by
    have := HN.out
    unfold Mixed at this
    rwa [hx] at this)
  rw [hx] at hml HMK HG HVX
  clear hA hS hms hvx hva HN hx
  go_enter Try.func24, Try.ntmps24
  go_wp2_with fail
  refine HNX.out.mono ?_
  rintro en w1 ⟨ax, cx, rfl, hs, hb⟩
  have HX1 := Lib.hid hs
  have HB1 := Lib.hid hb
  have HA1 := Lib.hid (HA.out.later hb)
  clear hs hb HNX HA
  have HMC := Lib.hid (refMarksC_any none a1 0 cap1 [] la w1 HV.out (ints_nil w1) List.Pairwise.nil (by simp; omega) HA1.out)
  simp only [List.length_nil] at HMC
  go_wp2_with fail
  refine HMC.out.mono ?_
  rintro en w2 ⟨am, cm, rfl, hi, hb⟩
  have HI2 := Lib.hid hi
  have HX2 := Lib.hid (HX1.out.later hb)
  have HA2 := Lib.hid (HA1.out.later hb)
  have HB2 := Lib.hid (HB1.out.trans (hb.mono HB1.out.size))
  clear hi hb HMC HX1 HA1 HB1
  have hMl := Ow.marksC_len la []
  have HMS := Lib.hid (Ow.marksC_sorted la (m := []) List.Pairwise.nil)
  have HMK2 : Hid (Ow.Marks (Ow.marksG (Ow.marksC [] la) x) (fun k => if Sp.hasB x k then some (n, e) else Ow.own la k)) := HMK
  have hML : (Ow.marksC [] la).length ≤ 32768 := by simp at hMl; omega
  have HMLN := Lib.hid hML
  clear hMl HMK hML
  generalize Ow.marksC [] la = M0 at *
  have hxl := HX2.out.1
  go_wp2
  go_loopw [10, 11] (fun m i wr => ∃ (k : Nat) (a' : Option Addr) (c' : Nat), k ≤ x.length ∧ i = .int .i64 k ∧ m = .slice a' (Ow.marksG M0 (x.take k)).length c' ∧ Hid (IntsN wr a' c' (Ow.marksG M0 (x.take k))) ∧ Hid (Below w2.heap.size w2 wr)) (fun _ i _ => x.length - (intOf i).toNat)
  case atStart => exact ⟨0, am, cm, Nat.zero_le _, rfl, rfl, HI2, Lib.hid (Below.refl _ _)⟩
  case round =>
    obtain ⟨k, a', c', hk, rfl, rfl, HI, HB⟩ := hrel
    by_cases hlt : k < x.length
    · obtain ⟨b, off, rfl, hb, q1, q2⟩ := (HX2.out.later HB.out).cells hlt
      have hok : 0 ≤ (x.getD k (0, 0)).1 ∧ (x.getD k (0, 0)).1 ≤ (x.getD k (0, 0)).2 ∧ (x.getD k (0, 0)).2 < 16384 := by
        have e : x.getD k (0, 0) = x[k] := by simp [List.getD, hlt]
        rw [e]; exact HVX.out _ (List.getElem_mem hlt)
      have hsn := Ow.marksG_snoc M0 hlt
      have hml2 := Ow.marksG_len (x.take k) M0
      have htk : (x.take k).length = k := by rw [List.length_take]; omega
      have HSO := Lib.hid (Ow.marksG_sorted (x.take k) HMS.out)
      have HML : Hid ((Ow.marksG M0 (x.take k)).length ≤ 950000) := Lib.hid (by have := HMLN.out; omega)
      generalize x.getD k (0, 0) = c at q1 q2 hok hsn
      unfold Ow.stepG at hsn
      have HSN := Lib.hid hsn
      clear hsn hml2 htk
      generalize Ow.marksG M0 (x.take k) = m at *
      obtain ⟨f, t⟩ := c
      simp only at q1 q2 hok HSN
      have ew : IntKind.i64.wrap (t + 1) = t + 1 := IntWalk.i64_in _ (by omega)
      have k0 : (0 : Int) ≤ (k : Int) := by omega
      have k1 : (k : Int) < (x.length : Int) := by omega
      have HC1 := Lib.hid (refMark_all a' c' m f wr (by omega) (by omega) (by have := HML.out; omega) HI.out HSO.out)
      have HC2 := Lib.hid (fun w' a2 c2 h => refMark_all a2 c2 (Sp.mark m f) (t + 1) w' (by omega) (by omega) (by have := HML.out; have := Sp.mark_len m f; omega) h (Sp.mark_sorted HSO.out))
      go_wp2_with fail
      refine HC1.out.mono ?_
      rintro en w3 ⟨a3, c3, rfl, hI, hb1⟩
      have q2' := (hb1.cell (p := ⟨b, off + k * 2 + 1, none⟩) hb).trans q2
      have HI1 := Lib.hid hI
      have HB1 := Lib.hid (HB.out.trans (hb1.mono HB.out.size))
      clear hI hb1 q1 q2
      go_wp2_with fail
      refine (HC2.out _ _ _ HI1.out).mono ?_
      rintro en w4 ⟨a4, c4, rfl, hI, hb2⟩
      have HI4 := Lib.hid hI
      have HB4 := Lib.hid (HB1.out.trans (hb2.mono HB1.out.size))
      clear hI hb2 q2'
      go_wp2
      go_roundw
      case rel => exact ⟨k + 1, a4, c4, by omega, by go_num, by rw [HSN.out], by rw [HSN.out]; exact HI4, HB4⟩
      case measure => simp [intOf]; omega
    · have hall : x.take k = x := List.take_of_length_le (by omega)
      rw [hall] at HI ⊢
      have hxk : (k : Int) = (x.length : Int) := by omega
      have HML5 : Hid ((Ow.marksG M0 x).length ≤ 950000) := Lib.hid (by have := Ow.marksG_len x M0; have := HMLN.out; omega)
      have HX5 := Lib.hid (HX2.out.later HB.out)
      have HA5 := Lib.hid (HA2.out.later HB.out)
      have HB5 := Lib.hid (HB2.out.trans (HB.out.mono HB2.out.size))
      clear HX2 HA2 HB2 hxk hall
      generalize Ow.marksG M0 x = M at *
      have hMc := HI.out.1.1
      have hMm := HML5.out
      obtain ⟨wo, rfl⟩ : ∃ wo, wo = wr := ⟨_, rfl⟩
      have HT : Hid (Grown wo (fun k => if Sp.hasB x k then some (n, e) else Ow.own la k) M 0 (.slice none 0 0) [] wo) := Lib.hid (Grown.start HMK2.out)
      obtain ⟨g, hg⟩ : ∃ g, (fun k => if Sp.hasB x k then some (n, e) else Ow.own la k) = g := ⟨_, rfl⟩
      have HGE : Hid (∀ k, g k = if Sp.hasB x k then some (n, e) else Ow.own la k) := Lib.hid fun k => by rw [← hg]
      rw [hg] at HT HMK2
      have HGG : Hid (∀ k, 0 ≤ k → k < 16384 → g k = giveF la s n e k) := Lib.hid fun k h0 h1 => by rw [← hg]; exact HG.out k h0 h1
      clear hg HG HB
      go_wp2
      go_loopw [12, 13] (fun v i wr => ∃ (j : Nat) (L : List Ow.C) (sv : Value), i = .int .i64 j ∧ sv = v ∧ Hid (Grown wo g M j sv L wr) ∧ j ≤ M.length) (fun _ i _ => M.length - (intOf i).toNat)
      case atStart => exact ⟨0, [], _, rfl, rfl, HT, Nat.zero_le _⟩
      case round =>
        obtain ⟨j, L, sv, rfl, rfl, HGR, hjm⟩ := hrel
        have ej1 : IntKind.i64.wrap ((j : Int) + 1) = (j : Int) + 1 := IntWalk.i64_in _ (by omega)
        by_cases hj : j + 1 < M.length
        · have hbw := HGR.out.2.1
          obtain ⟨b, off, rfl, hb, q1⟩ := ints_cellAt (HI.out.1.later hbw) (k := j) (by omega)
          obtain ⟨b', off', hbb, hb', q2⟩ := ints_cellAt (HI.out.1.later hbw) hj
          cases hbb
          have r1 := HMK2.out.rng _ (Ow.getD_mem (M := M) (i := j) (by omega))
          have r2 := HMK2.out.rng _ (Ow.getD_mem hj)
          have up := Ow.step_up HMK2.out.up hj
          have hblt : b < wo.heap.size := by
            obtain ⟨b2, off2, e2, hb2, _⟩ := ints_cellAt HI.out.1 (k := j) (by omega)
            cases e2; exact hb2
          have HPUT := Lib.hid (fun n' e' w2' w3' v' en hgk hb2 ho he => Grown.put (n := n') (e := e') (w2 := w2') (w3 := w3') (v' := v') (en := en) HMK2.out HGR.out hj hgk hb2 ho he)
          have HSK := Lib.hid (fun w2' hgk hb2 => Grown.skip (w2 := w2') HMK2.out HGR.out hj hgk hb2)
          have hgj := HGE.out (M.getD j 0)
          have HOF := Lib.hid (fun w' h => refOf_any a1 cap1 la (M.getD j 0) w' h)
          have HHS := Lib.hid (fun w' h => refHas_any ax cx x (M.getD j 0) w' h)
          have HMO := Lib.hid (fun w2' n' e' (h : Below wr.heap.size wr w2') => refMore_any wo.heap.size sv L ⟨M.getD j 0, M.getD (j + 1) 0 - 1, n', e'⟩ w2' (by have := HGR.out.len; omega) (by simp only; omega) (Nat.le_trans hbw.size h.size) (owns_below HGR.out.1 h))
          have HAZ := Lib.hid (HA5.out.later hbw)
          have HXZ := Lib.hid (HX5.out.later hbw)
          have HLN := Lib.hid HGR.out.1
          have hbz := hbw.size
          generalize M.getD j 0 = p at *
          generalize M.getD (j + 1) 0 = q at *
          have ewq : IntKind.i64.wrap (q - 1) = q - 1 := IntWalk.i64_in _ (by omega)
          have j0 : (0 : Int) ≤ (j : Int) := by omega
          have j1 : (j : Int) < (M.length : Int) := by omega
          have j2 : (j : Int) + 1 < (M.length : Int) := by omega
          have j3 : ((j : Int) + 1).toNat = j + 1 := by omega
          have j4 : (0 : Int) ≤ (j : Int) + 1 := by omega
          clear HT hbw up
          simp only at HMO
          by_cases hh : Sp.hasB x p = true
          · have HGK : Hid (g p = some (n, e)) := Lib.hid (by rw [hgj, if_pos hh])
            rw [hh] at HHS
            obtain ⟨on, oe, hoo⟩ : ∃ on oe, Ow.ro (Ow.own la p) = (on, oe) := ⟨_, _, rfl⟩
            rw [hoo] at HOF
            clear hgj hh hoo
            have hn0 := hn.1
            go_wp2_with fail
            refine (HOF.out _ HAZ.out).mono ?_
            rintro en w6 ⟨rfl, hb6⟩
            have q1' := (hb6.cell (p := ⟨b, off + j, none⟩) hb).trans q1
            have q2' := (hb6.cell (p := ⟨b, off + (j + 1), none⟩) hb).trans q2
            have HX6 := Lib.hid (HXZ.out.later hb6)
            have HB6 := Lib.hid hb6
            have hb7 : b < w6.heap.size := Nat.lt_of_lt_of_le hb hb6.size
            clear hb6 q1 q2
            go_wp2_with fail
            refine (HHS.out _ HX6.out).mono ?_
            rintro en w7 ⟨rfl, rfl⟩
            go_upto_region 17 with (fail)
            go_region_held3 (fun w' => w'.cell? ⟨b, off + j, none⟩ = some (.int .i64 p) ∧ w'.cell? ⟨b, off + (j + 1), none⟩ = some (.int .i64 q))
              (first
                | go_keep
                | exact ⟨(HKK.out.cell (p := ⟨b, off + j, none⟩) hb7 HNE.out).trans q1', (HKK.out.cell (p := ⟨b, off + (j + 1), none⟩) hb7 HNE.out).trans q2'⟩)
              (first
                | (go_at_call 40; refine (HMO.out _ n e HB6.out.drew).mono ?_; rintro en w8 ho8; obtain ⟨v8, e8, h81, h82, h83⟩ := ho8; subst e8; have HNE : Hid (some b ≠ sv.ownBlock) := Lib.hid (fun e => by have := (HLN.out.lt b e.symm).1; omega); have HKK : Hid (Keeps (fun k => some k ≠ sv.ownBlock) w6 w8) := Lib.hid ((Keeps.refl _ w6).drew.trans h82); have HOO := Lib.hid (HPUT.out n e _ w8 v8 _ HGK.out HB6.out.drew ⟨v8, rfl, h81, h82, h83⟩ rfl); clear h81 h82 h83))
            go_wp2
            go_roundw
            case rel =>
              obtain ⟨L', h'⟩ := HOO.out
              exact ⟨j + 1, L', _, by go_num, rfl, Lib.hid h', by omega⟩
            case measure => simp [intOf]; omega
          · have hf : Sp.hasB x p = false := by simpa using hh
            rw [hf] at HHS
            cases ho : Ow.own la p with
            | none =>
              have HGK : Hid (g p = none) := Lib.hid (by rw [hgj, if_neg hh, ho])
              have hoo : Ow.ro (Ow.own la p) = (-1, 0) := by rw [ho]; rfl
              rw [hoo] at HOF
              clear hgj hh hf ho hoo
              go_wp2_with fail
              refine (HOF.out _ HAZ.out).mono ?_
              rintro en w6 ⟨rfl, hb6⟩
              have q1' := (hb6.cell (p := ⟨b, off + j, none⟩) hb).trans q1
              have q2' := (hb6.cell (p := ⟨b, off + (j + 1), none⟩) hb).trans q2
              have HX6 := Lib.hid (HXZ.out.later hb6)
              have HB6 := Lib.hid hb6
              have hb7 : b < w6.heap.size := Nat.lt_of_lt_of_le hb hb6.size
              clear hb6 q1 q2
              go_wp2_with fail
              refine (HHS.out _ HX6.out).mono ?_
              rintro en w7 ⟨rfl, rfl⟩
              go_wp2
              go_roundw
              case rel => exact ⟨j + 1, L, _, by go_num, rfl, Lib.hid (HSK.out _ HGK.out HB6.out), by omega⟩
              case measure => simp [intOf]; omega
            | some o =>
              obtain ⟨on, oe⟩ := o
              have HGK : Hid (g p = some (on, oe)) := Lib.hid (by rw [hgj, if_neg hh, ho])
              have hn0 := (Ow.own_range HV.out ho).2.2.1
              have hoo : Ow.ro (Ow.own la p) = (on, oe) := by rw [ho]; rfl
              rw [hoo] at HOF
              clear hgj hh hf ho hoo
              simp only at hn0
              go_wp2_with fail
              refine (HOF.out _ HAZ.out).mono ?_
              rintro en w6 ⟨rfl, hb6⟩
              have q1' := (hb6.cell (p := ⟨b, off + j, none⟩) hb).trans q1
              have q2' := (hb6.cell (p := ⟨b, off + (j + 1), none⟩) hb).trans q2
              have HX6 := Lib.hid (HXZ.out.later hb6)
              have HB6 := Lib.hid hb6
              have hb7 : b < w6.heap.size := Nat.lt_of_lt_of_le hb hb6.size
              clear hb6 q1 q2
              go_wp2_with fail
              refine (HHS.out _ HX6.out).mono ?_
              rintro en w7 ⟨rfl, rfl⟩
              go_upto_region 17 with (fail)
              go_region_held3 (fun w' => w'.cell? ⟨b, off + j, none⟩ = some (.int .i64 p) ∧ w'.cell? ⟨b, off + (j + 1), none⟩ = some (.int .i64 q))
                (first
                  | go_keep
                  | exact ⟨(HKK.out.cell (p := ⟨b, off + j, none⟩) hb7 HNE.out).trans q1', (HKK.out.cell (p := ⟨b, off + (j + 1), none⟩) hb7 HNE.out).trans q2'⟩)
                (first
                  | (go_at_call 40; refine (HMO.out _ on oe HB6.out.drew).mono ?_; rintro en w8 ho8; obtain ⟨v8, e8, h81, h82, h83⟩ := ho8; subst e8; have HNE : Hid (some b ≠ sv.ownBlock) := Lib.hid (fun e => by have := (HLN.out.lt b e.symm).1; omega); have HKK : Hid (Keeps (fun k => some k ≠ sv.ownBlock) w6 w8) := Lib.hid ((Keeps.refl _ w6).drew.trans h82); have HOO := Lib.hid (HPUT.out on oe _ w8 v8 _ HGK.out HB6.out.drew ⟨v8, rfl, h81, h82, h83⟩ rfl); clear h81 h82 h83))
              go_wp2
              go_roundw
              case rel =>
                obtain ⟨L', h'⟩ := HOO.out
                exact ⟨j + 1, L', _, by go_num, rfl, Lib.hid h', by omega⟩
              case measure => simp [intOf]; omega
        · have HFIN := Lib.hid (Grown.fin HMK2.out HGR.out hj)
          have HRZ := Lib.hid (And.intro HGR.out.1 HGR.out.2.1)
          have hj' : ¬ (j : Int) + 1 < (M.length : Int) := by omega
          clear hj HGR
          go_wp2
          go_ret
          obtain ⟨a9, c9, hv9, hc9, -⟩ := cls_of_row HRZ.out.1 (Ow.fit_all HFIN.out.1)
          exact ⟨a9, c9, L, by rw [← hv9]; rfl, ⟨HFIN.out.1, HFIN.out.2.1, fun k h0 h1 => (HFIN.out.2.2 k h0 h1).trans (HGG.out k h0 h1)⟩, hc9, HB5.out.trans (HRZ.out.2.mono HB5.out.size)⟩
end Go.Proofs.Ytchladbjhodkoaa
