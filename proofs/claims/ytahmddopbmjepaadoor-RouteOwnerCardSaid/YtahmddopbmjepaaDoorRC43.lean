/- The walk of the law RouteOwner (14.1, 14.3). -/
import Derived.Test.YtahmddopbmjepaaDoorRC34
import Derived.Test.YtahmddopbmjepaaDoorRC19
import Derived.Test.YtahmddopbmjepaaDoorRC42
namespace Go.Proofs.YtahmddopbmjepaaDoor
open Go.RowKit Go.Shelf
attribute [local go_sem] Oper.semAt_some
set_option linter.unusedVariables false
set_option linter.unusedSimpArgs false

def zeroNd : Array Value := #[.int .i64 0, .int .i64 0, .int .i64 0, .int .i64 0, .int .i64 0, .slice none 0 0, .slice none 0 0, .slice none 0 0, .int .i64 0, .slice none 0 0, .int .i64 0, .int .i64 0, .int .i64 0, .slice none 0 0, .int .i64 0, .int .i64 0, .int .i64 0, .slice none 0 0, .slice none 0 0, .int .i64 0, .slice none 0 0, .int .i64 0]

set_option maxRecDepth 100000 in
set_option maxHeartbeats 8000000 in
theorem routeOwner_go (K : List UInt8) (id tt : Int) (has locked other : Bool) (w : World) (hE : Env w) (hK : K.length ≤ 9223372036854775807) (i0 : 0 ≤ id) (i1 : id ≤ 255) (t0 : 0 ≤ tt) (t1 : tt ≤ 255) :
    Calls Tryd.prog 6 #[.string ⟨K.toArray⟩, .int .u8 id, .int .u8 tt, .bool has, .bool locked, .bool other] w fun e w' => e = .returned (.bool true) ∧ Below w.heap.size w w' := by
  have HA : Hid (∀ W, Below w.heap.size w W → Calls Tryd.prog 11 #[] W fun e w' => e = .returned (.bool true) ∧ Below W.heap.size W w') := Lib.hid fun W hb => awake_any W (hE.later hb)
  have hsz : (⟨K.toArray⟩ : ByteArray).size = K.length := by simp [ByteArray.size]
  have HB := Lib.hid (Below.refl w.heap.size w)
  obtain ⟨i, hi⟩ : ∃ i, id % 4 = i := ⟨_, rfl⟩
  obtain ⟨j, hj⟩ : ∃ j, tt % 4 = j := ⟨_, rfl⟩
  have hi' : id.tmod 4 = i := by rw [← hi]; exact Int.tmod_eq_emod_of_nonneg i0
  have hj' : tt.tmod 4 = j := by rw [← hj]; exact Int.tmod_eq_emod_of_nonneg t0
  have bi : 0 ≤ i ∧ i < 4 := by omega
  have bj : 0 ≤ j ∧ j < 4 := by omega
  by_cases hl : 40 < K.length
  · have d1 : decide ((40 : Int) < (K.length : Int)) = true := decide_eq_true (by omega)
    clear hE
    go_enter Tryd.func6, Tryd.ntmps6
    go_wp2_with fail
    refine (HA.out _ HB.out).mono ?_
    rintro e w9 ⟨rfl, hb⟩
    have HB9 := Lib.hid hb
    clear hb
    go_wp2_with fail
    go_ret
    exact ⟨rfl, HB9.out⟩
  have d1 : decide ((40 : Int) < (K.length : Int)) = false := decide_eq_false (by omega)
  by_cases hij : i = j
  · have d2 : (i == j) = true := by rw [beq_iff_eq]; exact hij
    clear hE
    go_enter Tryd.func6, Tryd.ntmps6
    go_wp2_with fail
    refine (HA.out _ HB.out).mono ?_
    rintro e w9 ⟨rfl, hb⟩
    have HB9 := Lib.hid hb
    clear hb
    go_wp2_with fail
    go_ret
    exact ⟨rfl, HB9.out⟩
  have d2 : (i == j) = false := by rw [beq_eq_false_iff_ne]; exact hij
  obtain ⟨x, hx⟩ : ∃ x, slotOf K = x := ⟨_, rfl⟩
  have hxl : x < 16384 := by rw [← hx]; exact slotOf_lt K
  have HSL : Hid (Calls Tryd.prog 18 #[.string ⟨K.toArray⟩] w fun e w' => e = .returned (.int .i64 (x : Int)) ∧ w = w') := Lib.hid (by rw [← hx]; exact refSlot_key K w hK)
  have HDX : Hid (∀ W : World, Calls Tryd.prog 21 #[.int .i64 (x : Int)] W fun e w' => e = .returned (.string ⟨(Dig.dec (x : Int)).toArray⟩) ∧ Below W.heap.size W w') := Lib.hid fun W => digits_any x W (by omega) (by omega)
  have HDI : Hid (∀ W : World, Calls Tryd.prog 21 #[.int .i64 i] W fun e w' => e = .returned (.string ⟨(Dig.dec i).toArray⟩) ∧ Below W.heap.size W w') := Lib.hid fun W => digits_any i W (by omega) (by omega)
  have HDJ : Hid (∀ W : World, Calls Tryd.prog 21 #[.int .i64 j] W fun e w' => e = .returned (.string ⟨(Dig.dec j).toArray⟩) ∧ Below W.heap.size W w') := Lib.hid fun W => digits_any j W (by omega) (by omega)
  have hlS := dec_len (x : Int) (by omega) (by omega)
  have hlT := dec_len i (by omega) (by omega)
  have hlJ := dec_len j (by omega) (by omega)
  obtain ⟨M, hM⟩ : ∃ M, Rt.redir Rt.mvd (x : Int) i = M := ⟨_, rfl⟩
  obtain ⟨A, hA2⟩ : ∃ A, Rt.redir Rt.ask (x : Int) j = A := ⟨_, rfl⟩
  have hMe : M = Rt.mvd ++ 32 :: (Dig.dec (x : Int) ++ 32 :: Dig.dec i) := hM.symm
  have hAe : A = Rt.ask ++ 32 :: (Dig.dec (x : Int) ++ 32 :: Dig.dec j) := hA2.symm
  generalize Dig.dec (x : Int) = S at HDX hlS hMe hAe
  generalize Dig.dec i = T at HDI hlT hMe
  generalize Dig.dec j = J at HDJ hlJ hAe
  have catM : (⟨#[77, 79, 86, 69, 68, 32]⟩ : ByteArray) ++ ⟨S.toArray⟩ ++ ⟨#[32]⟩ ++ ⟨T.toArray⟩ = ⟨M.toArray⟩ := by
    rw [hMe]; apply ByteArray.ext; simp [Rt.mvd]
  have catA : (⟨#[65, 83, 75, 32]⟩ : ByteArray) ++ ⟨S.toArray⟩ ++ ⟨#[32]⟩ ++ ⟨J.toArray⟩ = ⟨A.toArray⟩ := by
    rw [hAe]; apply ByteArray.ext; simp [Rt.ask]
  have hMne : (M == []) = false := by rw [hMe]; rfl
  have hMne2 : (M != []) = true := by rw [hMe]; rfl
  have hMM : (M == M) = true := by simp
  have hMM2 : (M != M) = false := by simp
  clear hMe hAe
  have HE := Lib.hid hE
  have HXK := Lib.hid hx
  have hKl : K.length ≤ 40 := by omega
  -- the claim, the node
  obtain ⟨wA, hwA⟩ : ∃ wA, w.alloc (.cells #[.int .i64 0, .int .i64 16383, .int .i64 i, .int .i64 1] 64) = wA := ⟨_, rfl⟩
  obtain ⟨wB, hwB⟩ : ∃ wB, wA.alloc (.cells zeroNd 36) = wB := ⟨_, rfl⟩
  have hgA : wA.heap[w.heap.size]? = some (.cells #[.int .i64 0, .int .i64 16383, .int .i64 i, .int .i64 1] 64 (0, 0)) := by rw [← hwA]; exact World.alloc_heap_new w _
  have hgB : wB.heap[wA.heap.size]? = some (.cells zeroNd 36 (0, 0)) := by rw [← hwB]; exact World.alloc_heap_new wA _
  have hbA : Below w.heap.size w wA := by rw [← hwA]; exact (Below.refl _ w).alloc (Nat.le_refl _) _
  have hbB : Below wA.heap.size wA wB := by rw [← hwB]; exact (Below.refl _ wA).alloc (Nat.le_refl _) _
  have hltA : w.heap.size < wA.heap.size := by rw [← hwA]; simp
  have hltB : wA.heap.size < wB.heap.size := by rw [← hwB]; simp
  obtain ⟨n0, hn0⟩ : ∃ n0 : NV, NV.of 4 i (-1) ⟨some ⟨w.heap.size, 0, none⟩, 1, 1⟩ SV.z SV.z = n0 := ⟨_, rfl⟩
  have hclA : Cls wA (some ⟨w.heap.size, 0, none⟩) 1 [Rt.ownC i] := by
    refine ⟨by simp, by decide, ?_, .inr ⟨w.heap.size, 0, rfl, hltA, fun k hk => ?_⟩⟩
    · intro c hc
      rw [List.mem_singleton] at hc
      subst hc
      unfold Ow.FitC Rt.ownC
      simp only
      omega
    · obtain rfl : k = 0 := by simpa using hk
      refine ⟨?_, ?_, ?_, ?_⟩ <;> simp [World.cell?, hgA, Rt.ownC]
  have hvl := Rt.ownC_vl (i := i) bi.1 (by omega)
  have HCL := Lib.hid hclA
  -- Decide of such a node, whatever is told of it
  have HDEC : Hid (∀ (W : World) (n : NV) (d : Rt.Nd) (ps : List Lp) (a : Bool) (aK : Option Addr) (cK : Nat) (ks : List (List UInt8)), Below w.heap.size w W → Node W n d ps → ps.length ≤ 1 → AscL ps → (∀ p ∈ ps, p.p.Sm) → d.mv.length ≤ 1 → d.cl = [Rt.ownC i] → Wds W aK cK ks → ks.length ≤ 2 →
      Calls Tryd.prog 12 #[.agg n.cells, .slice aK ks.length cK, .bool a] W fun e w' => e = .returned (.string ⟨(Rt.decideS d ks a).toArray⟩) ∧ Below W.heap.size W w') := Lib.hid fun W n d ps a aK cK ks hb hN h1 h2 h3 h4 h5 hW h6 =>
    decide_any n d ps a aK cK ks W (hE.later hb) hN (by omega) h2 h3 (by omega) (by rw [h5]; exact hvl) hW (by omega)
  have hNode : ∀ (W : World) (id' ms' : Int), 0 ≤ id' → id' < 4 → -1 ≤ ms' → ms' < 4 → Below wA.heap.size wA W → Node W (NV.of 4 id' ms' ⟨some ⟨w.heap.size, 0, none⟩, 1, 1⟩ SV.z SV.z) ⟨id', ms', [Rt.ownC i], fun k => (rawL [] k).isSome, []⟩ [] := fun W id' ms' a1 a2 a3 a4 hb =>
    { id := rfl, ms := rfl, idr := ⟨by show _ ≤ id'; omega, by show id' ≤ _; omega⟩, msr := ⟨by show _ ≤ ms'; omega, by show ms' ≤ _; omega⟩, cln := rfl, cl := hclA.later hb, dbn := rfl, db := prs_nil W, has := rfl, mvn := rfl, mv := mvs_nil W }
  have HND := Lib.hid hNode
  have hxB := NdBox.ofRow (n := n0) hgB
  have hbC := below_setRow hbB (Nat.le_refl _) n0.cells
  obtain ⟨wC, hwC⟩ : ∃ wC, wB.setRow wA.heap.size n0.cells = wC := ⟨_, rfl⟩
  rw [hwC] at hxB hbC
  obtain ⟨wD, hwD⟩ : ∃ wD, wC.alloc (.cells #[.string ⟨K.toArray⟩] 9) = wD := ⟨_, rfl⟩
  have hbD : Below wC.heap.size wC wD := by rw [← hwD]; exact (Below.refl _ wC).alloc (Nat.le_refl _) _
  have hwK : Wds wD (some ⟨wC.heap.size, 0, none⟩) 1 [K] := by rw [← hwD]; exact wds_lit wC K hK
  have HBD := Lib.hid (hbA.trans (((hbC.trans (hbD.mono hbC.size))).mono hbA.size))
  have HAD := Lib.hid (hbC.trans (hbD.mono hbC.size))
  have HXD := Lib.hid (hxB.later hbD hxB.lt)
  have HWK := Lib.hid hwK
  have hltC := hxB.lt
  have HN0E : Hid (n0.cells = (NV.of 4 i (-1) ⟨some ⟨w.heap.size, 0, none⟩, 1, 1⟩ SV.z SV.z).cells) := Lib.hid (by rw [hn0])
  have HN0 := Lib.hid hn0
  have HD0 : Hid (∀ (W : World) (a : Bool), Below wD.heap.size wD W → Calls Tryd.prog 12 #[.agg n0.cells, .slice (some ⟨wC.heap.size, 0, none⟩) 1 1, .bool a] W fun e w' => e = .returned (.string ⟨#[]⟩) ∧ Below W.heap.size W w') := Lib.hid fun W a hb => by
    have h := HDEC.out W n0 _ [] a (some ⟨wC.heap.size, 0, none⟩) 1 [K] (HBD.out.trans (hb.mono HBD.out.size)) (by rw [← hn0]; exact HND.out W i (-1) bi.1 bi.2 (by omega) (by omega) (HAD.out.trans (hb.mono HAD.out.size))) (by decide) asc_nil (by simp) (by simp) rfl (HWK.out.later hb) (by simp)
    rw [Rt.pl1] at h
    exact h
  have HD1 : Hid (∀ (W : World) (a : Bool), Below wD.heap.size wD W → Calls Tryd.prog 12 #[.agg ({ n0 with id := j } : NV).cells, .slice (some ⟨wC.heap.size, 0, none⟩) 1 1, .bool a] W fun e w' => e = .returned (.string ⟨(if a then [] else M).toArray⟩) ∧ Below W.heap.size W w') := Lib.hid fun W a hb => by
    have h := HDEC.out W { n0 with id := j } _ [] a (some ⟨wC.heap.size, 0, none⟩) 1 [K] (HBD.out.trans (hb.mono HBD.out.size)) (by rw [← hn0]; exact HND.out W j (-1) bj.1 bj.2 (by omega) (by omega) (HAD.out.trans (hb.mono HAD.out.size))) (by decide) asc_nil (by simp) (by simp) rfl (HWK.out.later hb) (by simp)
    rw [Rt.pl2 _ _ _ _ hij, hx, hM] at h
    exact h
  have HD2 : Hid (∀ (W : World) (a : Bool), Below wD.heap.size wD W → Calls Tryd.prog 12 #[.agg ({ n0 with id := j, ms := i } : NV).cells, .slice (some ⟨wC.heap.size, 0, none⟩) 1 1, .bool a] W fun e w' => e = .returned (.string ⟨M.toArray⟩) ∧ Below W.heap.size W w') := Lib.hid fun W a hb => by
    have h := HDEC.out W { n0 with id := j, ms := i } _ [] a (some ⟨wC.heap.size, 0, none⟩) 1 [K] (HBD.out.trans (hb.mono HBD.out.size)) (by rw [← hn0]; exact HND.out W j i bj.1 bj.2 (by omega) bi.2 (HAD.out.trans (hb.mono HAD.out.size))) (by decide) asc_nil (by simp) (by simp) rfl (HWK.out.later hb) (by simp)
    rw [Rt.pl3 _ _ _ _ _ bi.1, hx, hM] at h
    exact h
  have HD1t : Hid (∀ W : World, Below wD.heap.size wD W → Calls Tryd.prog 12 #[.agg ({ n0 with id := j } : NV).cells, .slice (some ⟨wC.heap.size, 0, none⟩) 1 1, .bool true] W fun e w' => e = .returned (.string ⟨#[]⟩) ∧ Below W.heap.size W w') := Lib.hid fun W hb => HD1.out W true hb
  have HD1f : Hid (∀ W : World, Below wD.heap.size wD W → Calls Tryd.prog 12 #[.agg ({ n0 with id := j } : NV).cells, .slice (some ⟨wC.heap.size, 0, none⟩) 1 1, .bool false] W fun e w' => e = .returned (.string ⟨M.toArray⟩) ∧ Below W.heap.size W w') := Lib.hid fun W hb => HD1.out W false hb
  have HX0 := Lib.hid (hxB.later hbD hxB.lt)
  have HGA := Lib.hid hgA
  have HKB : Hid (wC.heap.size < wD.heap.size ∧ wD.heap[wC.heap.size]? = some (.cells #[.string ⟨K.toArray⟩] 9 (0, 0))) := Lib.hid ⟨by rw [← hwD]; simp, by rw [← hwD]; exact World.alloc_heap_new wC _⟩
  clear hE hclA hNode hxB hbC hbD hwK hbA hbB hgA HD1 hn0
  go_enter Tryd.func6, Tryd.ntmps6
  go_wp2_with fail
  refine (HSL.out).mono ?_
  rintro e w2 ⟨rfl, rfl⟩
  go_upto_region 4 with (fail)
  unfold zeroNd at hwB
  go_wp2_with (first | (refine wpList_store_row rfl 36 (.tmp 14) (.tmp 39) rfl wA.heap.size n0.cells ?_ ?_ 36 zeroNd hgB ?_ ?_ ?_ ?_; (rfl); (rw [HN0E.out]; rfl); (kernel_rfl); (rfl); (exact NV.one _)) | (refine wpList_load_row rfl 36 (.tmp 14) rfl wA.heap.size rfl 36 n0.cells (0, 0) _ HX0.out Tryd.underlying36 rfl (by kernel_rfl) ?_) | (refine wpList_load_rowG (by rfl) 36 (.tmp 14) rfl wA.heap.size rfl 36 n0.cells (0, 0) _ HX0.out Tryd.underlying36 rfl (by kernel_rfl) ?_))
  refine (HD0.out _ false (Below.refl _ _)).mono ?_
  rintro e w3 ⟨rfl, hb⟩
  have HW3 := Lib.hid hb
  have HX3 := Lib.hid (HX0.out.later hb HX0.out.lt)
  clear hb
  go_wp2_with (first | (refine wpList_load_row rfl 36 (.tmp 14) rfl wA.heap.size rfl 36 n0.cells (0, 0) _ HX3.out Tryd.underlying36 rfl (by kernel_rfl) ?_) | (refine wpList_load_rowG (by rfl) 36 (.tmp 14) rfl wA.heap.size rfl 36 n0.cells (0, 0) _ HX3.out Tryd.underlying36 rfl (by kernel_rfl) ?_))
  refine (HD0.out _ true HW3.out).mono ?_
  rintro e w4 ⟨rfl, hb⟩
  have HW4 := Lib.hid (HW3.out.trans (hb.mono HW3.out.size))
  have HX4 := Lib.hid (HX3.out.later hb HX3.out.lt)
  have hD4 : wD.heap.size ≤ w4.heap.size := HW4.out.size
  clear hb HW3 HX3
  obtain ⟨wE, hwE⟩ : ∃ wE, w4.alloc (.cells zeroNd 36) = wE := ⟨_, rfl⟩
  have hgE : wE.heap[w4.heap.size]? = some (.cells zeroNd 36 (0, 0)) := by rw [← hwE]; exact World.alloc_heap_new w4 _
  have hbE : Below w4.heap.size w4 wE := by rw [← hwE]; exact (Below.refl _ w4).alloc (Nat.le_refl _) _
  have hxF := NdBox.ofRow (n := n0) hgE
  have hbF := below_setRow hbE (Nat.le_refl _) n0.cells
  obtain ⟨wF, hwF⟩ : ∃ wF, wE.setRow w4.heap.size n0.cells = wF := ⟨_, rfl⟩
  rw [hwF] at hxF hbF
  have zF1 := hxF.few.1
  have fF1 := hxF.free 1
  have hxG := hxF.set1 j
  have hbG : Below w4.heap.size w4 (wF.setCell ⟨w4.heap.size, 1, none⟩ (.int .i64 j)) := hbF.setCell (p := ⟨w4.heap.size, 1, none⟩) (Nat.le_refl _) _
  obtain ⟨wG, hwG⟩ : ∃ wG, wF.setCell ⟨w4.heap.size, 1, none⟩ (.int .i64 j) = wG := ⟨_, rfl⟩
  rw [hwG] at hxG hbG
  have HXG := Lib.hid hxG
  have HX5 := Lib.hid (HX4.out.later hbG HX4.out.lt)
  have HW5 := Lib.hid (HW4.out.trans (hbG.mono HW4.out.size))
  have hltG := hxG.lt
  have hBlt : wA.heap.size < w4.heap.size := HX4.out.lt
  unfold zeroNd at hwE
  clear hbE hxF hbF hxG hbG
  go_wp2_with (first | (refine wpList_store_row rfl 36 (.tmp 16) (.tmp 52) rfl w4.heap.size n0.cells ?_ ?_ 36 zeroNd hgE ?_ ?_ ?_ ?_; (rfl); (rfl); (kernel_rfl); (rfl); (exact NV.one _)) | (refine wpList_load_row rfl 36 (.tmp 14) rfl wA.heap.size rfl 36 n0.cells (0, 0) _ HX4.out Tryd.underlying36 rfl (by kernel_rfl) ?_) | (refine wpList_load_rowG (by rfl) 36 (.tmp 14) rfl wA.heap.size rfl 36 n0.cells (0, 0) _ HX4.out Tryd.underlying36 rfl (by kernel_rfl) ?_) | (refine wpList_load_row rfl 36 (.tmp 16) rfl w4.heap.size rfl 36 ({ n0 with id := j } : NV).cells (0, 0) _ HXG.out Tryd.underlying36 rfl (by kernel_rfl) ?_) | (refine wpList_load_rowG (by rfl) 36 (.tmp 16) rfl w4.heap.size rfl 36 ({ n0 with id := j } : NV).cells (0, 0) _ HXG.out Tryd.underlying36 rfl (by kernel_rfl) ?_))
  clear hwE hwF hwG zF1 fF1 hgE
  refine (HD1f.out _ HW5.out).mono ?_
  rintro e w6 ⟨rfl, hb⟩
  have HW6 := Lib.hid (HW5.out.trans (hb.mono HW5.out.size))
  have HXG6 := Lib.hid (HXG.out.later hb HXG.out.lt)
  have HX6 := Lib.hid (HX5.out.later hb HX5.out.lt)
  clear hb
  go_wp2_with fail
  refine (HDX.out _).mono ?_
  rintro e w7 ⟨rfl, hb⟩
  have HW7 := Lib.hid (HW6.out.trans (hb.mono HW6.out.size))
  have HXG7 := Lib.hid (HXG6.out.later hb HXG6.out.lt)
  have HX7 := Lib.hid (HX6.out.later hb HX6.out.lt)
  clear hb
  go_wp2_with fail
  refine (HDI.out _).mono ?_
  rintro e w8 ⟨rfl, hb⟩
  have HW8 := Lib.hid (HW7.out.trans (hb.mono HW7.out.size))
  have HXG8 := Lib.hid (HXG7.out.later hb HXG7.out.lt)
  have HX8 := Lib.hid (HX7.out.later hb HX7.out.lt)
  clear hb HXG6 HXG7 HX6 HX7 HX5 HX4 HW6 HW7 HW5 HW4
  go_wp2_with (first | (refine wpList_load_row rfl 36 (.tmp 16) rfl w4.heap.size rfl 36 ({ n0 with id := j } : NV).cells (0, 0) _ HXG8.out Tryd.underlying36 rfl (by kernel_rfl) ?_) | (refine wpList_load_rowG (by rfl) 36 (.tmp 16) rfl w4.heap.size rfl 36 ({ n0 with id := j } : NV).cells (0, 0) _ HXG8.out Tryd.underlying36 rfl (by kernel_rfl) ?_))
  refine (HD1t.out _ HW8.out).mono ?_
  rintro e w9 ⟨rfl, hb⟩
  have HW9 := Lib.hid (HW8.out.trans (hb.mono HW8.out.size))
  have hxg := HXG8.out.later hb HXG8.out.lt
  have HX9 := Lib.hid (HX8.out.later hb HX8.out.lt)
  have z92 := hxg.few.2.1
  have f92 := hxg.free 2
  have hx10 := hxg.set2 i
  have hw4D := HW9.out.size
  obtain ⟨w10, hw10⟩ : ∃ w10, w9.setCell ⟨w4.heap.size, 2, none⟩ (.int .i64 i) = w10 := ⟨_, rfl⟩
  have hb10 : Below w4.heap.size w9 w10 := by rw [← hw10]; exact (Below.refl _ w9).setCell (p := ⟨w4.heap.size, 2, none⟩) (Nat.le_refl _) _
  rw [hw10] at hx10
  have hDw4 : wD.heap.size ≤ w4.heap.size := hD4
  have HW10 := Lib.hid (HW9.out.trans (hb10.mono hDw4))
  have HX10 := Lib.hid (HX9.out.later hb10 hBlt)
  have HXG10 := Lib.hid hx10
  clear hb hxg hx10 hb10 HXG8 HX8 HW8 HX9 HW9
  go_upto_region 13 with (first | (refine wpList_load_row rfl 36 (.tmp 16) rfl w4.heap.size rfl 36 ({ n0 with id := j } : NV).cells (0, 0) _ HXG.out Tryd.underlying36 rfl (by kernel_rfl) ?_) | (refine wpList_load_rowG (by rfl) 36 (.tmp 16) rfl w4.heap.size rfl 36 ({ n0 with id := j } : NV).cells (0, 0) _ HXG.out Tryd.underlying36 rfl (by kernel_rfl) ?_))
  clear hw10 z92 f92
  obtain ⟨wq, hwq⟩ : ∃ wq, w10.drew = wq := ⟨_, rfl⟩
  have hbq : Below w10.heap.size w10 wq := by rw [← hwq]; exact (Below.refl _ _).drew
  have HBq := Lib.hid (HW10.out.trans (hbq.mono HW10.out.size))
  have HXq := Lib.hid (HX10.out.later hbq HX10.out.lt)
  have HS0 := HXG10.out.later hbq HXG10.out.lt
  refine wp_region_L (S := fun W => NdBox W w4.heap.size ({ n0 with id := j, ms := i } : NV)) (f := 13) (by kernel_rfl) ?_
  rw [hwq]
  clear hwq hbq HX10 HW10 HXG10
  refine wpAnyL_take (i := 0) (some 80) (v := .agg ({ n0 with id := j, ms := i } : NV).cells) rfl rfl (by kernel_rfl) (by kernel_rfl) (by kernel_rfl) (by kernel_rfl) (fun _ _ _ h => h) (by rfl) (fun W hS => ?_) HS0 ?_
  · exact exec_load_node hS rfl rfl
  try simp only [Act.put, List.setIfInBounds_toArray, List.set_cons_zero, List.set_cons_succ]
  refine wpAnyL_take (i := 1) (some 81) (v := .slice (some ⟨wC.heap.size, 0, none⟩) 1 1) rfl rfl (by kernel_rfl) (by kernel_rfl) (by kernel_rfl) (by kernel_rfl) (fun _ _ _ h => h) (by rfl) (fun W hS => ?_) HS0 ?_
  · go_simp
  try simp only [Act.put, List.setIfInBounds_toArray, List.set_cons_zero, List.set_cons_succ]
  refine wpAnyL_take (i := 3) (some 83) (v := .agg ({ n0 with id := j, ms := i } : NV).cells) rfl rfl (by kernel_rfl) (by kernel_rfl) (by kernel_rfl) (by kernel_rfl) (fun _ _ _ h => h) (by rfl) (fun W hS => ?_) HS0 ?_
  · exact exec_load_node hS rfl rfl
  try simp only [Act.put, List.setIfInBounds_toArray, List.set_cons_zero, List.set_cons_succ]
  refine wpAnyL_take (i := 4) (some 84) (v := .slice (some ⟨wC.heap.size, 0, none⟩) 1 1) rfl rfl (by kernel_rfl) (by kernel_rfl) (by kernel_rfl) (by kernel_rfl) (fun _ _ _ h => h) (by rfl) (fun W hS => ?_) HS0 ?_
  · go_simp
  try simp only [Act.put, List.setIfInBounds_toArray, List.set_cons_zero, List.set_cons_succ]
  refine wpAnyL_one (j := 2) (by kernel_rfl) rfl (by rfl) (fun K hK => ?_)
  go_simp
  with_reducible refine (HD2.out _ true HBq.out).mono ?_
  rintro e v1 ⟨rfl, hb⟩
  have HBv1 := Lib.hid (HBq.out.trans (hb.mono HBq.out.size))
  have HXv1 := Lib.hid (HXq.out.later hb HXq.out.lt)
  have HS1 := (HS0).later hb (HS0).lt
  clear hb HXq HBq
  refine hK _ _ (fun _ => HS1) ?_
  clear hK K
  try simp only [Act.put, List.setIfInBounds_toArray, List.set_cons_zero, List.set_cons_succ]
  refine wpAnyL_one (j := 5) (by kernel_rfl) rfl (by rfl) (fun K hK => ?_)
  go_simp
  with_reducible refine (HD2.out _ false HBv1.out).mono ?_
  rintro e v2 ⟨rfl, hb⟩
  have HBv2 := Lib.hid (HBv1.out.trans (hb.mono HBv1.out.size))
  have HXv2 := Lib.hid (HXv1.out.later hb HXv1.out.lt)
  have HS2 := (HS1).later hb (HS1).lt
  clear hb HXv1 HBv1
  refine hK _ _ (fun _ => HS2) ?_
  clear hK K
  try simp only [Act.put, List.setIfInBounds_toArray, List.set_cons_zero, List.set_cons_succ]
  refine wpAnyL_take (i := 6) (some 86) (v := .bool false) rfl rfl (by kernel_rfl) (by kernel_rfl) (by kernel_rfl) (by kernel_rfl) (fun _ _ _ h => h) (by rfl) (fun W hS => ?_) HS2 ?_
  · go_simp
  try simp only [Act.put, List.setIfInBounds_toArray, List.set_cons_zero, List.set_cons_succ]
  refine wpAnyL_take (i := 7) (some 87) (v := .bool false) rfl rfl (by kernel_rfl) (by kernel_rfl) (by kernel_rfl) (by kernel_rfl) (fun _ _ _ h => h) (by rfl) (fun W hS => ?_) HS2 ?_
  · go_simp
  try simp only [Act.put, List.setIfInBounds_toArray, List.set_cons_zero, List.set_cons_succ]
  refine wpAnyL_take (i := 8) (some 88) (v := .agg ({ n0 with id := j, ms := i } : NV).cells) rfl rfl (by kernel_rfl) (by kernel_rfl) (by kernel_rfl) (by kernel_rfl) (fun _ _ _ h => h) (by rfl) (fun W hS => ?_) HS2 ?_
  · exact exec_load_node hS rfl rfl
  try simp only [Act.put, List.setIfInBounds_toArray, List.set_cons_zero, List.set_cons_succ]
  refine wpAnyL_take (i := 9) (some 89) (v := .slice (some ⟨wC.heap.size, 0, none⟩) 1 1) rfl rfl (by kernel_rfl) (by kernel_rfl) (by kernel_rfl) (by kernel_rfl) (fun _ _ _ h => h) (by rfl) (fun W hS => ?_) HS2 ?_
  · go_simp
  try simp only [Act.put, List.setIfInBounds_toArray, List.set_cons_zero, List.set_cons_succ]
  refine wpAnyL_one (j := 10) (by kernel_rfl) rfl (by rfl) (fun K hK => ?_)
  go_simp
  with_reducible refine (HD2.out _ true HBv2.out).mono ?_
  rintro e v3 ⟨rfl, hb⟩
  have HBv3 := Lib.hid (HBv2.out.trans (hb.mono HBv2.out.size))
  have HXv3 := Lib.hid (HXv2.out.later hb HXv2.out.lt)
  have HS3 := (HS2).later hb (HS2).lt
  clear hb HXv2 HBv2
  refine hK _ _ (fun _ => HS3) ?_
  clear hK K
  try simp only [Act.put, List.setIfInBounds_toArray, List.set_cons_zero, List.set_cons_succ]
  refine wpAnyL_take (i := 11) (some 91) (v := .bool false) rfl rfl (by kernel_rfl) (by kernel_rfl) (by kernel_rfl) (by kernel_rfl) (fun _ _ _ h => h) (by rfl) (fun W hS => ?_) HS3 ?_
  · go_simp
  try simp only [Act.put, List.setIfInBounds_toArray, List.set_cons_zero, List.set_cons_succ]
  refine wpAnyL_take (i := 12) (some 92) (v := .bool false) rfl rfl (by kernel_rfl) (by kernel_rfl) (by kernel_rfl) (by kernel_rfl) (fun _ _ _ h => h) (by rfl) (fun W hS => ?_) HS3 ?_
  · go_simp
  try simp only [Act.put, List.setIfInBounds_toArray, List.set_cons_zero, List.set_cons_succ]
  refine wpAnyL_done (by kernel_rfl) ?_ _
  have hbAv := HAD.out.trans (HBv3.out.mono HAD.out.size)
  have HG0 := Lib.hid ((hbAv.block w.heap.size hltA).trans HGA.out)
  have HGK := Lib.hid ((HBv3.out.block wC.heap.size HKB.out.1).trans HKB.out.2)
  have hCgt : wA.heap.size < wC.heap.size := hltC
  have hDC : wC.heap.size < wD.heap.size := HKB.out.1
  have hDv : wD.heap.size ≤ v3.heap.size := HBv3.out.size
  have hBv : wA.heap.size < v3.heap.size := HXv3.out.lt
  obtain ⟨wM, hwM⟩ : ∃ wM, v3.alloc (.cells #[.int .i64 (x : Int), .int .i64 j, .int .i64 0, .string ⟨#[]⟩] 61) = wM := ⟨_, rfl⟩
  have hmM : MvBox wM v3.heap.size (x : Int) j 0 [] := by rw [← hwM]; exact MvBox.new v3 x j 0 []
  have hbM : Below v3.heap.size v3 wM := by rw [← hwM]; exact (Below.refl _ v3).alloc (Nat.le_refl _) _
  have hltM : v3.heap.size < wM.heap.size := by rw [← hwM]; simp
  have hxM := HXv3.out.later hbM HXv3.out.lt
  have z7 := hxM.few.2.2.2.2
  have f7 := hxM.free 7
  have hxN := hxM.set7 (some ⟨v3.heap.size, 0, none⟩) 1 1
  have hmN : MvBox (wM.setCell ⟨wA.heap.size, 7, none⟩ (.slice (some ⟨v3.heap.size, 0, none⟩) 1 1)) v3.heap.size (x : Int) j 0 [] := heap_far hmM (by omega) 7 _
  have hg0N : (wM.setCell ⟨wA.heap.size, 7, none⟩ (.slice (some ⟨v3.heap.size, 0, none⟩) 1 1)).heap[w.heap.size]? = some (.cells #[.int .i64 0, .int .i64 16383, .int .i64 i, .int .i64 1] 64 (0, 0)) := heap_far ((hbM.block _ (by omega)).trans HG0.out) (by omega) 7 _
  have hgKN : (wM.setCell ⟨wA.heap.size, 7, none⟩ (.slice (some ⟨v3.heap.size, 0, none⟩) 1 1)).heap[wC.heap.size]? = some (.cells #[.string ⟨K.toArray⟩] 9 (0, 0)) := heap_far ((hbM.block _ (by omega)).trans HGK.out) (by omega) 7 _
  have hbN : Below w.heap.size w (wM.setCell ⟨wA.heap.size, 7, none⟩ (.slice (some ⟨v3.heap.size, 0, none⟩) 1 1)) := (((HBD.out.trans (HBv3.out.mono HBD.out.size)).trans (hbM.mono (by have := HBD.out.size; omega)))).setCell (p := ⟨wA.heap.size, 7, none⟩) (by simp only; omega) _
  obtain ⟨wN, hwN⟩ : ∃ wN, wM.setCell ⟨wA.heap.size, 7, none⟩ (.slice (some ⟨v3.heap.size, 0, none⟩) 1 1) = wN := ⟨_, rfl⟩
  rw [hwN] at hxN hmN hg0N hgKN hbN
  have hsN : wM.heap.size ≤ wN.heap.size := by rw [← hwN]; simp [World.setCell]
  have HXN := Lib.hid hxN
  have HMN := Lib.hid hmN
  have HG0N := Lib.hid hg0N
  have HGKN := Lib.hid hgKN
  have HBN := Lib.hid hbN
  clear hbAv hmM hbM hxM hxN hmN hg0N hgKN hbN HXv3 HBv3 HG0 HGK HS3
  cases has with
  | false =>
    go_wp2_with fail
    refine (HDX.out _).mono ?_
    rintro e w20 ⟨rfl, hb⟩
    have HB20 := Lib.hid hb
    clear hb
    go_wp2_with fail
    refine (HDJ.out _).mono ?_
    rintro e wT ⟨rfl, hb⟩
    have hbT := HB20.out.trans (hb.mono HB20.out.size)
    have HXT := Lib.hid (HXN.out.later hbT HXN.out.lt)
    have HMT := Lib.hid (HMN.out.later hbT (Array.getElem?_eq_some_iff.1 HMN.out).1)
    have HG0T := Lib.hid ((hbT.block _ (Array.getElem?_eq_some_iff.1 HG0N.out).1).trans HG0N.out)
    have HGKT := Lib.hid ((hbT.block _ (Array.getElem?_eq_some_iff.1 HGKN.out).1).trans HGKN.out)
    have HBT := Lib.hid (HBN.out.trans (hbT.mono HBN.out.size))
    have hAA : (A == A) = true := by simp
    clear hb hbT HXN HMN HG0N HGKN HBN HB20 hwM hwN z7 f7
    -- the node as it stands now
    have HNT : Hid (∀ W : World, NdBox W wA.heap.size ({ n0 with mv := ⟨some ⟨v3.heap.size, 0, none⟩, 1, 1⟩ } : NV) ∧ MvBox W v3.heap.size (x : Int) j 0 [] ∧ W.heap[w.heap.size]? = some (.cells #[.int .i64 0, .int .i64 16383, .int .i64 i, .int .i64 1] 64 (0, 0)) → Node W ({ n0 with mv := ⟨some ⟨v3.heap.size, 0, none⟩, 1, 1⟩ } : NV) ⟨i, -1, [Rt.ownC i], fun k => (rawL [] k).isSome, [⟨(x : Int), j, 0, []⟩]⟩ []) := Lib.hid fun W ⟨_, hM', hC'⟩ => by
      rw [← HN0.out]
      exact { id := rfl, ms := rfl, idr := ⟨by show _ ≤ i; omega, by show i ≤ _; omega⟩, msr := ⟨by show (_ : Int) ≤ -1; decide, by show (-1 : Int) ≤ _; decide⟩, cln := rfl, cl := cls_at bi hC', dbn := rfl, db := prs_nil W, has := rfl, mvn := rfl, mv := mvs_at (m := ⟨(x : Int), j, 0, []⟩) ⟨by simp only; omega, by simp only; omega, by simp only; omega, by simp only; decide⟩ hM' }
    have HMEM0 : Hid (NdBox wT wA.heap.size ({ n0 with mv := ⟨some ⟨v3.heap.size, 0, none⟩, 1, 1⟩ } : NV) ∧ MvBox wT v3.heap.size (x : Int) j 0 [] ∧ wT.heap[w.heap.size]? = some (.cells #[.int .i64 0, .int .i64 16383, .int .i64 i, .int .i64 1] 64 (0, 0))) := Lib.hid ⟨HXT.out, HMT.out, HG0T.out⟩
    have HKEEP : Hid (∀ (W : World) (g : Nat), (∀ b, b < wT.heap.size → b ≠ wC.heap.size → W.heap[b]? = wT.heap[b]?) → NdBox W wA.heap.size ({ n0 with mv := ⟨some ⟨v3.heap.size, 0, none⟩, 1, 1⟩ } : NV) ∧ MvBox W v3.heap.size (x : Int) j 0 [] ∧ W.heap[w.heap.size]? = some (.cells #[.int .i64 0, .int .i64 16383, .int .i64 i, .int .i64 1] 64 (0, 0))) := Lib.hid fun W g h => ⟨(h _ HXT.out.lt (by omega)).trans HXT.out, (h _ (Array.getElem?_eq_some_iff.1 HMT.out).1 (by omega)).trans HMT.out, (h _ (Array.getElem?_eq_some_iff.1 HG0T.out).1 (by omega)).trans HG0T.out⟩
    have HDA : Hid (∀ (W : World) (a : Option Addr) (c : Nat) (ks : List (List UInt8)), Below w.heap.size w W → (∀ b, b < wT.heap.size → b ≠ wC.heap.size → W.heap[b]? = wT.heap[b]?) → Wds W a c ks → ks.length ≤ 2 → Calls Tryd.prog 12 #[.agg ({ n0 with mv := ⟨some ⟨v3.heap.size, 0, none⟩, 1, 1⟩ } : NV).cells, .slice a ks.length c, .bool false] W fun e w' => e = .returned (.string ⟨(Rt.decideS ⟨i, -1, [Rt.ownC i], fun k => (rawL [] k).isSome, [⟨(x : Int), j, 0, []⟩]⟩ ks false).toArray⟩) ∧ Below W.heap.size W w') := Lib.hid fun W a c ks hb hk hW hl =>
      HDEC.out W ({ n0 with mv := ⟨some ⟨v3.heap.size, 0, none⟩, 1, 1⟩ } : NV) _ [] false a c ks hb (HNT.out W (HKEEP.out W 0 hk)) (by simp) asc_nil (by simp) (by simp) rfl hW hl
    have HDone : Hid (∀ W, Below wT.heap.size wT W → Calls Tryd.prog 12 #[.agg ({ n0 with mv := ⟨some ⟨v3.heap.size, 0, none⟩, 1, 1⟩ } : NV).cells, .slice (some ⟨wC.heap.size, 0, none⟩) 1 1, .bool false] W fun e w' => e = .returned (.string ⟨(A : List UInt8).toArray⟩) ∧ Below W.heap.size W w') := Lib.hid fun W hb => by
      have h := HDA.out W (some ⟨wC.heap.size, 0, none⟩) 1 [K] (HBT.out.trans (hb.mono HBT.out.size)) (fun b h1 _ => hb.block b h1) (wds_at hK ((hb.block _ (Array.getElem?_eq_some_iff.1 HGKT.out).1).trans HGKT.out)) (by simp)
      rw [Rt.pl4 i _ _ [K] x hxl (by simp) (by rw [Rt.one_one, HXK.out]) rfl] at h
      rw [show (fun k => (rawL [] k).isSome) = (fun _ => false) from rfl, Rt.mv_no1 _ rfl K] at h
      rw [show Rt.redir Rt.ask (⟨(x : Int), j, 0, []⟩ : Rt.Mv).s (⟨(x : Int), j, 0, []⟩ : Rt.Mv).t = A from hA2] at h
      exact h
    have HDnil : Hid (∀ W, Below wT.heap.size wT W → Calls Tryd.prog 12 #[.agg ({ n0 with mv := ⟨some ⟨v3.heap.size, 0, none⟩, 1, 1⟩ } : NV).cells, .slice none 0 0, .bool false] W fun e w' => e = .returned (.string ⟨#[]⟩) ∧ Below W.heap.size W w') := Lib.hid fun W hb => HDA.out W none 0 [] (HBT.out.trans (hb.mono HBT.out.size)) (fun b h1 _ => hb.block b h1) (wds_nil W) (by simp)
    clear HNT HND HN0E
    cases other with
    | false =>
      go_wp2_with (first | (refine wpList_load_row rfl 36 (.tmp 14) rfl wA.heap.size rfl 36 ({ n0 with mv := ⟨some ⟨v3.heap.size, 0, none⟩, 1, 1⟩ } : NV).cells (0, 0) _ HXT.out Tryd.underlying36 rfl (by kernel_rfl) ?_) | (refine wpList_load_rowG (by rfl) 36 (.tmp 14) rfl wA.heap.size rfl 36 ({ n0 with mv := ⟨some ⟨v3.heap.size, 0, none⟩, 1, 1⟩ } : NV).cells (0, 0) _ HXT.out Tryd.underlying36 rfl (by kernel_rfl) ?_))
      refine (HDone.out _ (Below.refl _ _)).mono ?_
      rintro e w41 ⟨rfl, hb⟩
      have HX41 := Lib.hid (HXT.out.later hb HXT.out.lt)
      have HB41 := Lib.hid hb
      have HBW41 := Lib.hid (HBT.out.trans (hb.mono HBT.out.size))
      clear hb
      go_wp2_with (first | (refine wpList_load_row rfl 36 (.tmp 14) rfl wA.heap.size rfl 36 ({ n0 with mv := ⟨some ⟨v3.heap.size, 0, none⟩, 1, 1⟩ } : NV).cells (0, 0) _ HX41.out Tryd.underlying36 rfl (by kernel_rfl) ?_) | (refine wpList_load_rowG (by rfl) 36 (.tmp 14) rfl wA.heap.size rfl 36 ({ n0 with mv := ⟨some ⟨v3.heap.size, 0, none⟩, 1, 1⟩ } : NV).cells (0, 0) _ HX41.out Tryd.underlying36 rfl (by kernel_rfl) ?_))
      refine (HDnil.out _ HB41.out).mono ?_
      rintro e w42 ⟨rfl, hb⟩
      have HBW42 := Lib.hid (HBW41.out.trans (hb.mono HBW41.out.size))
      clear hb
      go_wp2_with fail
      refine (HA.out _ HBW42.out).mono ?_
      rintro e w43 ⟨rfl, hb⟩
      have HBW43 := Lib.hid (HBW42.out.trans (hb.mono HBW42.out.size))
      clear hb
      go_wp2_with fail
      go_ret
      exact ⟨rfl, HBW43.out⟩
    | true =>
      by_cases k0 : K = []
      · have k0' : (K != []) = false := by rw [k0]; rfl
        have k0'' : (K == []) = true := by rw [k0]; rfl
        clear k0
        go_wp2_with (first | (refine wpList_load_row rfl 36 (.tmp 14) rfl wA.heap.size rfl 36 ({ n0 with mv := ⟨some ⟨v3.heap.size, 0, none⟩, 1, 1⟩ } : NV).cells (0, 0) _ HXT.out Tryd.underlying36 rfl (by kernel_rfl) ?_) | (refine wpList_load_rowG (by rfl) 36 (.tmp 14) rfl wA.heap.size rfl 36 ({ n0 with mv := ⟨some ⟨v3.heap.size, 0, none⟩, 1, 1⟩ } : NV).cells (0, 0) _ HXT.out Tryd.underlying36 rfl (by kernel_rfl) ?_))
        refine (HDone.out _ (Below.refl _ _)).mono ?_
        rintro e w41 ⟨rfl, hb⟩
        have HX41 := Lib.hid (HXT.out.later hb HXT.out.lt)
        have HB41 := Lib.hid hb
        have HBW41 := Lib.hid (HBT.out.trans (hb.mono HBT.out.size))
        clear hb
        go_wp2_with (first | (refine wpList_load_row rfl 36 (.tmp 14) rfl wA.heap.size rfl 36 ({ n0 with mv := ⟨some ⟨v3.heap.size, 0, none⟩, 1, 1⟩ } : NV).cells (0, 0) _ HX41.out Tryd.underlying36 rfl (by kernel_rfl) ?_) | (refine wpList_load_rowG (by rfl) 36 (.tmp 14) rfl wA.heap.size rfl 36 ({ n0 with mv := ⟨some ⟨v3.heap.size, 0, none⟩, 1, 1⟩ } : NV).cells (0, 0) _ HX41.out Tryd.underlying36 rfl (by kernel_rfl) ?_))
        refine (HDnil.out _ HB41.out).mono ?_
        rintro e w42 ⟨rfl, hb⟩
        have HBW42 := Lib.hid (HBW41.out.trans (hb.mono HBW41.out.size))
        clear hb
        go_wp2_with fail
        refine (HA.out _ HBW42.out).mono ?_
        rintro e w43 ⟨rfl, hb⟩
        have HBW43 := Lib.hid (HBW42.out.trans (hb.mono HBW42.out.size))
        clear hb
        go_wp2_with fail
        go_ret
        exact ⟨rfl, HBW43.out⟩
      have k0' : (K != []) = true := by rw [bne_iff_ne]; exact k0
      have k0'' : (K == []) = false := by rw [beq_eq_false_iff_ne]; exact k0
      have hpos : 0 < K.length := List.length_pos_iff.2 k0
      have hposI : (0 : Int) < (K.length : Int) := by omega
      obtain ⟨y, hy⟩ : ∃ y : Int, ((K.getD 0 0).toNat : Int) = y := ⟨_, rfl⟩
      have hix : ∀ W : World, (Instr.index 9 (.string ⟨K.toArray⟩) (.int .i64 0)).run Tryd.prog W = .ok (.int .u8 y) W := fun W => by
        have := idx_at K 0 hpos W
        rw [hy] at this
        exact this
      clear k0
      by_cases k1 : y = 123
      · have k1' : (y != 123) = false := by rw [k1]; rfl
        have k1'' : (y == 123) = true := by rw [k1]; rfl
        clear k1
        go_wp2_with (first | (refine wpList_load_row rfl 36 (.tmp 14) rfl wA.heap.size rfl 36 ({ n0 with mv := ⟨some ⟨v3.heap.size, 0, none⟩, 1, 1⟩ } : NV).cells (0, 0) _ HXT.out Tryd.underlying36 rfl (by kernel_rfl) ?_) | (refine wpList_load_rowG (by rfl) 36 (.tmp 14) rfl wA.heap.size rfl 36 ({ n0 with mv := ⟨some ⟨v3.heap.size, 0, none⟩, 1, 1⟩ } : NV).cells (0, 0) _ HXT.out Tryd.underlying36 rfl (by kernel_rfl) ?_))
        refine (HDone.out _ (Below.refl _ _)).mono ?_
        rintro e w41 ⟨rfl, hb⟩
        have HX41 := Lib.hid (HXT.out.later hb HXT.out.lt)
        have HB41 := Lib.hid hb
        have HBW41 := Lib.hid (HBT.out.trans (hb.mono HBT.out.size))
        clear hb
        go_wp2_with (first | (refine wpList_load_row rfl 36 (.tmp 14) rfl wA.heap.size rfl 36 ({ n0 with mv := ⟨some ⟨v3.heap.size, 0, none⟩, 1, 1⟩ } : NV).cells (0, 0) _ HX41.out Tryd.underlying36 rfl (by kernel_rfl) ?_) | (refine wpList_load_rowG (by rfl) 36 (.tmp 14) rfl wA.heap.size rfl 36 ({ n0 with mv := ⟨some ⟨v3.heap.size, 0, none⟩, 1, 1⟩ } : NV).cells (0, 0) _ HX41.out Tryd.underlying36 rfl (by kernel_rfl) ?_))
        refine (HDnil.out _ HB41.out).mono ?_
        rintro e w42 ⟨rfl, hb⟩
        have HBW42 := Lib.hid (HBW41.out.trans (hb.mono HBW41.out.size))
        clear hb
        go_wp2_with fail
        refine (HA.out _ HBW42.out).mono ?_
        rintro e w43 ⟨rfl, hb⟩
        have HBW43 := Lib.hid (HBW42.out.trans (hb.mono HBW42.out.size))
        clear hb
        go_wp2_with fail
        go_ret
        exact ⟨rfl, HBW43.out⟩
      have k1' : (y != 123) = true := by rw [bne_iff_ne]; exact k1
      have k1'' : (y == 123) = false := by rw [beq_eq_false_iff_ne]; exact k1
      by_cases k2 : 30 ≤ K.length
      · have k2' : decide ((K.length : Int) < 30) = false := decide_eq_false (by omega)
        go_wp2_with (first | (refine wpList_load_row rfl 36 (.tmp 14) rfl wA.heap.size rfl 36 ({ n0 with mv := ⟨some ⟨v3.heap.size, 0, none⟩, 1, 1⟩ } : NV).cells (0, 0) _ HXT.out Tryd.underlying36 rfl (by kernel_rfl) ?_) | (refine wpList_load_rowG (by rfl) 36 (.tmp 14) rfl wA.heap.size rfl 36 ({ n0 with mv := ⟨some ⟨v3.heap.size, 0, none⟩, 1, 1⟩ } : NV).cells (0, 0) _ HXT.out Tryd.underlying36 rfl (by kernel_rfl) ?_))
        refine (HDone.out _ (Below.refl _ _)).mono ?_
        rintro e w41 ⟨rfl, hb⟩
        have HX41 := Lib.hid (HXT.out.later hb HXT.out.lt)
        have HB41 := Lib.hid hb
        have HBW41 := Lib.hid (HBT.out.trans (hb.mono HBT.out.size))
        clear hb
        go_wp2_with (first | (refine wpList_load_row rfl 36 (.tmp 14) rfl wA.heap.size rfl 36 ({ n0 with mv := ⟨some ⟨v3.heap.size, 0, none⟩, 1, 1⟩ } : NV).cells (0, 0) _ HX41.out Tryd.underlying36 rfl (by kernel_rfl) ?_) | (refine wpList_load_rowG (by rfl) 36 (.tmp 14) rfl wA.heap.size rfl 36 ({ n0 with mv := ⟨some ⟨v3.heap.size, 0, none⟩, 1, 1⟩ } : NV).cells (0, 0) _ HX41.out Tryd.underlying36 rfl (by kernel_rfl) ?_))
        refine (HDnil.out _ HB41.out).mono ?_
        rintro e w42 ⟨rfl, hb⟩
        have HBW42 := Lib.hid (HBW41.out.trans (hb.mono HBW41.out.size))
        clear hb
        go_wp2_with fail
        refine (HA.out _ HBW42.out).mono ?_
        rintro e w43 ⟨rfl, hb⟩
        have HBW43 := Lib.hid (HBW42.out.trans (hb.mono HBW42.out.size))
        clear hb
        go_wp2_with fail
        go_ret
        exact ⟨rfl, HBW43.out⟩
      have k2' : decide ((K.length : Int) < 30) = true := decide_eq_true (by omega)
      have HTAG : Hid (∀ W : World, Calls Tryd.prog 22 #[.string ⟨K.toArray⟩] W fun e w' => e = .returned (.string ⟨(Tags.tag K).toArray⟩) ∧ W = w') := Lib.hid fun W => by
        have h := refTag_walk ⟨K.toArray⟩ W (by rw [hsz]; unfold maxLen; omega)
        simpa using h
      obtain ⟨tg, htg⟩ : ∃ tg, Tags.tag K = tg := ⟨_, rfl⟩
      rw [htg] at HTAG
      by_cases k3 : tg = K
      · have k3' : (tg == K) = true := by rw [beq_iff_eq]; exact k3
        have catO : (⟨#[123]⟩ : ByteArray) ++ ⟨K.toArray⟩ ++ ⟨#[125, 120]⟩ = ⟨(Rt.oth K).toArray⟩ := by
          apply ByteArray.ext; simp [Rt.oth]
        have hlO : (Rt.oth K).length ≤ 50 := by unfold Rt.oth; simp; omega
        obtain ⟨O, hO⟩ : ∃ O, Rt.oth K = O := ⟨_, rfl⟩
        rw [hO] at catO hlO
        have HO := Lib.hid hO
        have HROW : Hid (RowW w (.slice (some ⟨wC.heap.size, 0, none⟩) 1 1) [K] wT) := Lib.hid ⟨⟨by simp [wcells], .inr ⟨wC.heap.size, 1, #[.string ⟨K.toArray⟩], rfl, by omega, HGKT.out, Nat.le_refl _, by decide, rfl, by simp [wcells]⟩⟩, HBT.out⟩
        obtain ⟨iF, hiF, hiF0, hiF1, hiF2⟩ := info_parts info9
        have hwT : w.heap.size ≤ wT.heap.size := HBT.out.size
        have hK1 : [K].length = 1 := rfl
        clear hO htg k3 k1 hy
        go_wp2_with fail
        refine (HTAG.out _).mono ?_
        rintro e w30 ⟨rfl, rfl⟩
        go_wp2_with (at_builtin; refine wpList_append_own _ rfl (.tmp 156) (.tmp 160) 37 rfl w.heap.size 9 iF _ 1 16 Tryd.underlying37 hiF hiF0 hiF1 hiF2 rfl (by decide) _ _ _ rfl (HROW.out.1.alloc _) ⟨wT.heap.size, 0, none⟩ 1 1 [.string ⟨O.toArray⟩] rfl rfl (one_news _ _ rfl _ _) (by simp [Value.oneCell']) (by unfold maxLen; omega) (by omega) (by simp; omega) ?_; intro v1 w31 hown hgrow _; have HR1 := Lib.hid (HROW.out.append hown hgrow); have HKP := Lib.hid (Keeps.of_grown (S := fun k => some k ≠ (Value.slice (some ⟨wC.heap.size, 0, none⟩) 1 1).ownBlock) hgrow fun r e h => h e.symm); clear hown hgrow; obtain ⟨a2, c2, hv2, hw2, -⟩ := wds_of_row HR1.out.1 (by intro s hs; simp only [List.cons_append, List.nil_append, List.mem_cons, List.mem_nil_iff, or_false] at hs; rcases hs with rfl | rfl <;> omega); have hv3 : v1 = .slice a2 2 c2 := hv2; subst hv3; have HW2 : Hid (Wds w31 a2 c2 [K, O]) := Lib.hid hw2; clear hw2 hv2)
        have HSM : Hid (∀ b, b < wT.heap.size → b ≠ wC.heap.size → w31.heap[b]? = wT.heap[b]?) := Lib.hid fun b hb hne => by
          have h1 : (wT.alloc (.cells #[.string ⟨O.toArray⟩] 9)).heap[b]? = wT.heap[b]? := ((Below.refl wT.heap.size wT).alloc (Nat.le_refl _) _).block b hb
          rw [← h1]
          exact HKP.out.block b (by simp; omega) (fun e => hne (by injection e with e))
        have HB31 := Lib.hid HR1.out.2
        have hw31 : wT.heap.size ≤ w31.heap.size := Nat.le_trans (by simp) HKP.out.size
        have HX31 := Lib.hid (HKEEP.out w31 0 HSM.out).1
        obtain ⟨b2, o2, rfl, hbl2, hc2⟩ := HW2.out.get (by simp)
        have g1 := hc2 1 (by simp)
        simp only [List.getD_cons_succ, List.getD_cons_zero] at g1
        have HSO : Hid (∀ W : World, Calls Tryd.prog 18 #[.string ⟨O.toArray⟩] W fun e w' => e = .returned (.int .i64 (slotOf O : Int)) ∧ W = w') := Lib.hid fun W => refSlot_key O W (by omega)
        have hsl := slotOf_lt O
        obtain ⟨z, hz⟩ : ∃ z, slotOf O = z := ⟨_, rfl⟩
        rw [hz] at HSO hsl
        have hc2w := HW2.out.1
        have hc2m := HW2.out.2.1
        simp only [List.length_cons, List.length_nil] at hc2w
        have hia := idx_one b2 o2 c2 w31
        clear hc2
        go_wp2_with fail
        rw [hia]
        go_simp
        go_wp2_with fail
        refine (HSO.out _).mono ?_
        rintro e w32 ⟨rfl, rfl⟩
        by_cases hzx : z = x
        · have hzx' : ((z : Int) != (x : Int)) = false := by rw [hzx]; simp
          have HDtwo : Hid (Calls Tryd.prog 12 #[.agg ({ n0 with mv := ⟨some ⟨v3.heap.size, 0, none⟩, 1, 1⟩ } : NV).cells, .slice (some ⟨b2, o2, none⟩) 2 c2, .bool false] w31 fun e w' => e = .returned (.string ⟨(A : List UInt8).toArray⟩) ∧ Below w31.heap.size w31 w') := Lib.hid (by
            have h := HDA.out w31 (some ⟨b2, o2, none⟩) c2 [K, O] HB31.out HSM.out HW2.out (by simp)
            rw [Rt.pl4 i _ _ [K, O] x hxl (by simp) (by rw [Rt.one_two (by rw [hz, hzx, HXK.out]), HXK.out]) rfl] at h
            rw [show (fun k => (rawL [] k).isSome) = (fun _ => false) from rfl, Rt.mv_no2 _ rfl K O] at h
            rw [show Rt.redir Rt.ask (⟨(x : Int), j, 0, []⟩ : Rt.Mv).s (⟨(x : Int), j, 0, []⟩ : Rt.Mv).t = A from hA2] at h
            exact h)
          have HDn2 : Hid (∀ W, Below w31.heap.size w31 W → Calls Tryd.prog 12 #[.agg ({ n0 with mv := ⟨some ⟨v3.heap.size, 0, none⟩, 1, 1⟩ } : NV).cells, .slice none 0 0, .bool false] W fun e w' => e = .returned (.string ⟨#[]⟩) ∧ Below W.heap.size W w') := Lib.hid fun W hb => HDA.out W none 0 [] (HB31.out.trans (hb.mono HB31.out.size)) (fun b h1 h2 => (hb.block b (by omega)).trans (HSM.out b h1 h2)) (wds_nil W) (by simp)
          clear hzx hz g1
          go_wp2_with (first | (refine wpList_load_row rfl 36 (.tmp 14) rfl wA.heap.size rfl 36 ({ n0 with mv := ⟨some ⟨v3.heap.size, 0, none⟩, 1, 1⟩ } : NV).cells (0, 0) _ HX31.out Tryd.underlying36 rfl (by kernel_rfl) ?_) | (refine wpList_load_rowG (by rfl) 36 (.tmp 14) rfl wA.heap.size rfl 36 ({ n0 with mv := ⟨some ⟨v3.heap.size, 0, none⟩, 1, 1⟩ } : NV).cells (0, 0) _ HX31.out Tryd.underlying36 rfl (by kernel_rfl) ?_))
          refine (HDtwo.out).mono ?_
          rintro e w41 ⟨rfl, hb⟩
          have HX41 := Lib.hid (HX31.out.later hb HX31.out.lt)
          have HB41 := Lib.hid hb
          have HBW41 := Lib.hid (HB31.out.trans (hb.mono HB31.out.size))
          clear hb
          go_wp2_with (first | (refine wpList_load_row rfl 36 (.tmp 14) rfl wA.heap.size rfl 36 ({ n0 with mv := ⟨some ⟨v3.heap.size, 0, none⟩, 1, 1⟩ } : NV).cells (0, 0) _ HX41.out Tryd.underlying36 rfl (by kernel_rfl) ?_) | (refine wpList_load_rowG (by rfl) 36 (.tmp 14) rfl wA.heap.size rfl 36 ({ n0 with mv := ⟨some ⟨v3.heap.size, 0, none⟩, 1, 1⟩ } : NV).cells (0, 0) _ HX41.out Tryd.underlying36 rfl (by kernel_rfl) ?_))
          refine (HDn2.out _ HB41.out).mono ?_
          rintro e w42 ⟨rfl, hb⟩
          have HBW42 := Lib.hid (HBW41.out.trans (hb.mono HBW41.out.size))
          clear hb
          go_wp2_with fail
          refine (HA.out _ HBW42.out).mono ?_
          rintro e w43 ⟨rfl, hb⟩
          have HBW43 := Lib.hid (HBW42.out.trans (hb.mono HBW42.out.size))
          clear hb
          go_wp2_with fail
          go_ret
          exact ⟨rfl, HBW43.out⟩
        · have hzx' : ((z : Int) != (x : Int)) = true := by rw [bne_iff_ne]; omega
          clear hzx hz g1
          go_wp2_with fail
          refine (HA.out _ HB31.out).mono ?_
          rintro e w43 ⟨rfl, hb⟩
          have HBW43 := Lib.hid (HB31.out.trans (hb.mono HB31.out.size))
          clear hb
          go_wp2_with fail
          go_ret
          exact ⟨rfl, HBW43.out⟩
      · have k3' : (tg == K) = false := by rw [beq_eq_false_iff_ne]; exact k3
        clear htg k3
        go_wp2_with fail
        refine (HTAG.out _).mono ?_
        rintro e w30 ⟨rfl, rfl⟩
        go_wp2_with (first | (refine wpList_load_row rfl 36 (.tmp 14) rfl wA.heap.size rfl 36 ({ n0 with mv := ⟨some ⟨v3.heap.size, 0, none⟩, 1, 1⟩ } : NV).cells (0, 0) _ HXT.out Tryd.underlying36 rfl (by kernel_rfl) ?_) | (refine wpList_load_rowG (by rfl) 36 (.tmp 14) rfl wA.heap.size rfl 36 ({ n0 with mv := ⟨some ⟨v3.heap.size, 0, none⟩, 1, 1⟩ } : NV).cells (0, 0) _ HXT.out Tryd.underlying36 rfl (by kernel_rfl) ?_))
        refine (HDone.out _ (Below.refl _ _)).mono ?_
        rintro e w41 ⟨rfl, hb⟩
        have HX41 := Lib.hid (HXT.out.later hb HXT.out.lt)
        have HB41 := Lib.hid hb
        have HBW41 := Lib.hid (HBT.out.trans (hb.mono HBT.out.size))
        clear hb
        go_wp2_with (first | (refine wpList_load_row rfl 36 (.tmp 14) rfl wA.heap.size rfl 36 ({ n0 with mv := ⟨some ⟨v3.heap.size, 0, none⟩, 1, 1⟩ } : NV).cells (0, 0) _ HX41.out Tryd.underlying36 rfl (by kernel_rfl) ?_) | (refine wpList_load_rowG (by rfl) 36 (.tmp 14) rfl wA.heap.size rfl 36 ({ n0 with mv := ⟨some ⟨v3.heap.size, 0, none⟩, 1, 1⟩ } : NV).cells (0, 0) _ HX41.out Tryd.underlying36 rfl (by kernel_rfl) ?_))
        refine (HDnil.out _ HB41.out).mono ?_
        rintro e w42 ⟨rfl, hb⟩
        have HBW42 := Lib.hid (HBW41.out.trans (hb.mono HBW41.out.size))
        clear hb
        go_wp2_with fail
        refine (HA.out _ HBW42.out).mono ?_
        rintro e w43 ⟨rfl, hb⟩
        have HBW43 := Lib.hid (HBW42.out.trans (hb.mono HBW42.out.size))
        clear hb
        go_wp2_with fail
        go_ret
        exact ⟨rfl, HBW43.out⟩
  | true =>
    obtain ⟨wP, hwP⟩ : ∃ wP, wN.alloc (.cells #[.string ⟨K.toArray⟩, .int .i64 1, .string ⟨#[]⟩, .slice none 0 0, .slice none 0 0, .int .i64 0] 70) = wP := ⟨_, rfl⟩
    have hpP : wP.heap[wN.heap.size]? = some (.cells #[.string ⟨K.toArray⟩, .int .i64 1, .string ⟨#[]⟩, .slice none 0 0, .slice none 0 0, .int .i64 0] 70 (0, 0)) := by rw [← hwP]; exact World.alloc_heap_new wN _
    have hbP : Below wN.heap.size wN wP := by rw [← hwP]; exact (Below.refl _ wN).alloc (Nat.le_refl _) _
    have hltP : wN.heap.size < wP.heap.size := by rw [← hwP]; simp
    have hxP := HXN.out.later hbP HXN.out.lt
    have z6 := hxP.few.2.2.2.1
    have f6 := hxP.free 6
    have hxQ := hxP.set6 (some ⟨wN.heap.size, 0, none⟩) 1 1
    have hmlt : v3.heap.size < wN.heap.size := by omega
    have hmQ : MvBox (wP.setCell ⟨wA.heap.size, 6, none⟩ (.slice (some ⟨wN.heap.size, 0, none⟩) 1 1)) v3.heap.size (x : Int) j 0 [] := heap_far ((hbP.block _ hmlt).trans HMN.out) (by omega) 6 _
    have hg0Q := heap_far ((hbP.block _ (by omega)).trans HG0N.out) (show wA.heap.size ≠ w.heap.size by omega) 6 (.slice (some ⟨wN.heap.size, 0, none⟩) 1 1)
    have hgKQ := heap_far ((hbP.block _ (by omega)).trans HGKN.out) (show wA.heap.size ≠ wC.heap.size by omega) 6 (.slice (some ⟨wN.heap.size, 0, none⟩) 1 1)
    have hpQ := heap_far hpP (show wA.heap.size ≠ wN.heap.size by omega) 6 (.slice (some ⟨wN.heap.size, 0, none⟩) 1 1)
    have hbQ : Below w.heap.size w (wP.setCell ⟨wA.heap.size, 6, none⟩ (.slice (some ⟨wN.heap.size, 0, none⟩) 1 1)) := (HBN.out.trans (hbP.mono HBN.out.size)).setCell (p := ⟨wA.heap.size, 6, none⟩) (by simp only; omega) _
    obtain ⟨wQ, hwQ⟩ : ∃ wQ, wP.setCell ⟨wA.heap.size, 6, none⟩ (.slice (some ⟨wN.heap.size, 0, none⟩) 1 1) = wQ := ⟨_, rfl⟩
    rw [hwQ] at hxQ hmQ hg0Q hgKQ hpQ hbQ
    have hsQ : wP.heap.size ≤ wQ.heap.size := by rw [← hwQ]; simp [World.setCell]
    have HXQ := Lib.hid hxQ
    have HMQ := Lib.hid hmQ
    have HG0Q := Lib.hid hg0Q
    have HGKQ := Lib.hid hgKQ
    have HPQ := Lib.hid hpQ
    have HBQ := Lib.hid hbQ
    clear hpP hbP hxP hxQ hmQ hg0Q hgKQ hpQ hbQ HXN HMN HG0N HGKN HBN
    cases locked with
    | false =>
      go_wp2_with fail
      refine (HDX.out _).mono ?_
      rintro e w20 ⟨rfl, hb⟩
      have HB20 := Lib.hid hb
      clear hb
      go_wp2_with fail
      refine (HDJ.out _).mono ?_
      rintro e wT ⟨rfl, hb⟩
      have hbT := HB20.out.trans (hb.mono HB20.out.size)
      have HXT := Lib.hid (HXQ.out.later hbT HXQ.out.lt)
      have HMT := Lib.hid (HMQ.out.later hbT (Array.getElem?_eq_some_iff.1 HMQ.out).1)
      have HG0T := Lib.hid ((hbT.block _ (Array.getElem?_eq_some_iff.1 HG0Q.out).1).trans HG0Q.out)
      have HGKT := Lib.hid ((hbT.block _ (Array.getElem?_eq_some_iff.1 HGKQ.out).1).trans HGKQ.out)
      have HPT := Lib.hid ((hbT.block _ (Array.getElem?_eq_some_iff.1 HPQ.out).1).trans HPQ.out)
      have HBT := Lib.hid (HBQ.out.trans (hbT.mono HBQ.out.size))
      clear hb hbT HXQ HMQ HG0Q HGKQ HPQ HBQ HB20 hwM hwN hwP hwQ z6 f6 z7 f7
      -- the node as it stands now
      have HNT : Hid (∀ W : World, NdBox W wA.heap.size ({ n0 with mv := ⟨some ⟨v3.heap.size, 0, none⟩, 1, 1⟩, db := ⟨some ⟨wN.heap.size, 0, none⟩, 1, 1⟩ } : NV) ∧ MvBox W v3.heap.size (x : Int) j 0 [] ∧ W.heap[w.heap.size]? = some (.cells #[.int .i64 0, .int .i64 16383, .int .i64 i, .int .i64 1] 64 (0, 0)) ∧ W.heap[wN.heap.size]? = some (.cells #[.string ⟨K.toArray⟩, .int .i64 1, .string ⟨#[]⟩, .slice none 0 0, .slice none 0 0, .int .i64 0] 70 (0, 0)) → Node W ({ n0 with mv := ⟨some ⟨v3.heap.size, 0, none⟩, 1, 1⟩, db := ⟨some ⟨wN.heap.size, 0, none⟩, 1, 1⟩ } : NV) ⟨i, -1, [Rt.ownC i], fun L => decide (K = L), [⟨(x : Int), j, 0, []⟩]⟩ [pairK K]) := Lib.hid fun W ⟨_, hM', hC', hP⟩ => by
        rw [← HN0.out]
        exact { id := rfl, ms := rfl, idr := ⟨by show _ ≤ i; omega, by show i ≤ _; omega⟩, msr := ⟨by show (_ : Int) ≤ -1; decide, by show (-1 : Int) ≤ _; decide⟩, cln := rfl, cl := cls_at bi hC', dbn := rfl, db := prs_at hK (hP), has := (by funext L; exact (raw_one K L).symm), mvn := rfl, mv := mvs_at (m := ⟨(x : Int), j, 0, []⟩) ⟨by simp only; omega, by simp only; omega, by simp only; omega, by simp only; decide⟩ hM' }
      have HMEM0 : Hid (NdBox wT wA.heap.size ({ n0 with mv := ⟨some ⟨v3.heap.size, 0, none⟩, 1, 1⟩, db := ⟨some ⟨wN.heap.size, 0, none⟩, 1, 1⟩ } : NV) ∧ MvBox wT v3.heap.size (x : Int) j 0 [] ∧ wT.heap[w.heap.size]? = some (.cells #[.int .i64 0, .int .i64 16383, .int .i64 i, .int .i64 1] 64 (0, 0)) ∧ wT.heap[wN.heap.size]? = some (.cells #[.string ⟨K.toArray⟩, .int .i64 1, .string ⟨#[]⟩, .slice none 0 0, .slice none 0 0, .int .i64 0] 70 (0, 0))) := Lib.hid ⟨HXT.out, HMT.out, HG0T.out, HPT.out⟩
      have HKEEP : Hid (∀ (W : World) (g : Nat), (∀ b, b < wT.heap.size → b ≠ wC.heap.size → W.heap[b]? = wT.heap[b]?) → NdBox W wA.heap.size ({ n0 with mv := ⟨some ⟨v3.heap.size, 0, none⟩, 1, 1⟩, db := ⟨some ⟨wN.heap.size, 0, none⟩, 1, 1⟩ } : NV) ∧ MvBox W v3.heap.size (x : Int) j 0 [] ∧ W.heap[w.heap.size]? = some (.cells #[.int .i64 0, .int .i64 16383, .int .i64 i, .int .i64 1] 64 (0, 0)) ∧ W.heap[wN.heap.size]? = some (.cells #[.string ⟨K.toArray⟩, .int .i64 1, .string ⟨#[]⟩, .slice none 0 0, .slice none 0 0, .int .i64 0] 70 (0, 0))) := Lib.hid fun W g h => ⟨(h _ HXT.out.lt (by omega)).trans HXT.out, (h _ (Array.getElem?_eq_some_iff.1 HMT.out).1 (by omega)).trans HMT.out, (h _ (Array.getElem?_eq_some_iff.1 HG0T.out).1 (by omega)).trans HG0T.out, (h _ (Array.getElem?_eq_some_iff.1 HPT.out).1 (by omega)).trans HPT.out⟩
      have HDA : Hid (∀ (W : World) (a : Option Addr) (c : Nat) (ks : List (List UInt8)), Below w.heap.size w W → (∀ b, b < wT.heap.size → b ≠ wC.heap.size → W.heap[b]? = wT.heap[b]?) → Wds W a c ks → ks.length ≤ 2 → Calls Tryd.prog 12 #[.agg ({ n0 with mv := ⟨some ⟨v3.heap.size, 0, none⟩, 1, 1⟩, db := ⟨some ⟨wN.heap.size, 0, none⟩, 1, 1⟩ } : NV).cells, .slice a ks.length c, .bool false] W fun e w' => e = .returned (.string ⟨(Rt.decideS ⟨i, -1, [Rt.ownC i], fun L => decide (K = L), [⟨(x : Int), j, 0, []⟩]⟩ ks false).toArray⟩) ∧ Below W.heap.size W w') := Lib.hid fun W a c ks hb hk hW hl =>
        HDEC.out W ({ n0 with mv := ⟨some ⟨v3.heap.size, 0, none⟩, 1, 1⟩, db := ⟨some ⟨wN.heap.size, 0, none⟩, 1, 1⟩ } : NV) _ [pairK K] false a c ks hb (HNT.out W (HKEEP.out W 0 hk)) (by simp) (asc_one _) (sm_one hKl) (by simp) rfl hW hl
      have HDone : Hid (∀ W, Below wT.heap.size wT W → Calls Tryd.prog 12 #[.agg ({ n0 with mv := ⟨some ⟨v3.heap.size, 0, none⟩, 1, 1⟩, db := ⟨some ⟨wN.heap.size, 0, none⟩, 1, 1⟩ } : NV).cells, .slice (some ⟨wC.heap.size, 0, none⟩) 1 1, .bool false] W fun e w' => e = .returned (.string ⟨([] : List UInt8).toArray⟩) ∧ Below W.heap.size W w') := Lib.hid fun W hb => by
        have h := HDA.out W (some ⟨wC.heap.size, 0, none⟩) 1 [K] (HBT.out.trans (hb.mono HBT.out.size)) (fun b h1 _ => hb.block b h1) (wds_at hK ((hb.block _ (Array.getElem?_eq_some_iff.1 HGKT.out).1).trans HGKT.out)) (by simp)
        rw [Rt.pl4 i _ _ [K] x hxl (by simp) (by rw [Rt.one_one, HXK.out]) rfl] at h
        rw [Rt.mv_has1 _ _ rfl K (show (fun L => decide (K = L)) K = true by simp)] at h
        exact h
      have HDnil : Hid (∀ W, Below wT.heap.size wT W → Calls Tryd.prog 12 #[.agg ({ n0 with mv := ⟨some ⟨v3.heap.size, 0, none⟩, 1, 1⟩, db := ⟨some ⟨wN.heap.size, 0, none⟩, 1, 1⟩ } : NV).cells, .slice none 0 0, .bool false] W fun e w' => e = .returned (.string ⟨#[]⟩) ∧ Below W.heap.size W w') := Lib.hid fun W hb => HDA.out W none 0 [] (HBT.out.trans (hb.mono HBT.out.size)) (fun b h1 _ => hb.block b h1) (wds_nil W) (by simp)
      clear HNT HND HN0E
      cases other with
      | false =>
        go_wp2_with (first | (refine wpList_load_row rfl 36 (.tmp 14) rfl wA.heap.size rfl 36 ({ n0 with mv := ⟨some ⟨v3.heap.size, 0, none⟩, 1, 1⟩, db := ⟨some ⟨wN.heap.size, 0, none⟩, 1, 1⟩ } : NV).cells (0, 0) _ HXT.out Tryd.underlying36 rfl (by kernel_rfl) ?_) | (refine wpList_load_rowG (by rfl) 36 (.tmp 14) rfl wA.heap.size rfl 36 ({ n0 with mv := ⟨some ⟨v3.heap.size, 0, none⟩, 1, 1⟩, db := ⟨some ⟨wN.heap.size, 0, none⟩, 1, 1⟩ } : NV).cells (0, 0) _ HXT.out Tryd.underlying36 rfl (by kernel_rfl) ?_))
        refine (HDone.out _ (Below.refl _ _)).mono ?_
        rintro e w41 ⟨rfl, hb⟩
        have HX41 := Lib.hid (HXT.out.later hb HXT.out.lt)
        have HB41 := Lib.hid hb
        have HBW41 := Lib.hid (HBT.out.trans (hb.mono HBT.out.size))
        clear hb
        go_wp2_with (first | (refine wpList_load_row rfl 36 (.tmp 14) rfl wA.heap.size rfl 36 ({ n0 with mv := ⟨some ⟨v3.heap.size, 0, none⟩, 1, 1⟩, db := ⟨some ⟨wN.heap.size, 0, none⟩, 1, 1⟩ } : NV).cells (0, 0) _ HX41.out Tryd.underlying36 rfl (by kernel_rfl) ?_) | (refine wpList_load_rowG (by rfl) 36 (.tmp 14) rfl wA.heap.size rfl 36 ({ n0 with mv := ⟨some ⟨v3.heap.size, 0, none⟩, 1, 1⟩, db := ⟨some ⟨wN.heap.size, 0, none⟩, 1, 1⟩ } : NV).cells (0, 0) _ HX41.out Tryd.underlying36 rfl (by kernel_rfl) ?_))
        refine (HDnil.out _ HB41.out).mono ?_
        rintro e w42 ⟨rfl, hb⟩
        have HBW42 := Lib.hid (HBW41.out.trans (hb.mono HBW41.out.size))
        clear hb
        go_wp2_with fail
        refine (HA.out _ HBW42.out).mono ?_
        rintro e w43 ⟨rfl, hb⟩
        have HBW43 := Lib.hid (HBW42.out.trans (hb.mono HBW42.out.size))
        clear hb
        go_wp2_with fail
        go_ret
        exact ⟨rfl, HBW43.out⟩
      | true =>
        by_cases k0 : K = []
        · have k0' : (K != []) = false := by rw [k0]; rfl
          have k0'' : (K == []) = true := by rw [k0]; rfl
          clear k0
          go_wp2_with (first | (refine wpList_load_row rfl 36 (.tmp 14) rfl wA.heap.size rfl 36 ({ n0 with mv := ⟨some ⟨v3.heap.size, 0, none⟩, 1, 1⟩, db := ⟨some ⟨wN.heap.size, 0, none⟩, 1, 1⟩ } : NV).cells (0, 0) _ HXT.out Tryd.underlying36 rfl (by kernel_rfl) ?_) | (refine wpList_load_rowG (by rfl) 36 (.tmp 14) rfl wA.heap.size rfl 36 ({ n0 with mv := ⟨some ⟨v3.heap.size, 0, none⟩, 1, 1⟩, db := ⟨some ⟨wN.heap.size, 0, none⟩, 1, 1⟩ } : NV).cells (0, 0) _ HXT.out Tryd.underlying36 rfl (by kernel_rfl) ?_))
          refine (HDone.out _ (Below.refl _ _)).mono ?_
          rintro e w41 ⟨rfl, hb⟩
          have HX41 := Lib.hid (HXT.out.later hb HXT.out.lt)
          have HB41 := Lib.hid hb
          have HBW41 := Lib.hid (HBT.out.trans (hb.mono HBT.out.size))
          clear hb
          go_wp2_with (first | (refine wpList_load_row rfl 36 (.tmp 14) rfl wA.heap.size rfl 36 ({ n0 with mv := ⟨some ⟨v3.heap.size, 0, none⟩, 1, 1⟩, db := ⟨some ⟨wN.heap.size, 0, none⟩, 1, 1⟩ } : NV).cells (0, 0) _ HX41.out Tryd.underlying36 rfl (by kernel_rfl) ?_) | (refine wpList_load_rowG (by rfl) 36 (.tmp 14) rfl wA.heap.size rfl 36 ({ n0 with mv := ⟨some ⟨v3.heap.size, 0, none⟩, 1, 1⟩, db := ⟨some ⟨wN.heap.size, 0, none⟩, 1, 1⟩ } : NV).cells (0, 0) _ HX41.out Tryd.underlying36 rfl (by kernel_rfl) ?_))
          refine (HDnil.out _ HB41.out).mono ?_
          rintro e w42 ⟨rfl, hb⟩
          have HBW42 := Lib.hid (HBW41.out.trans (hb.mono HBW41.out.size))
          clear hb
          go_wp2_with fail
          refine (HA.out _ HBW42.out).mono ?_
          rintro e w43 ⟨rfl, hb⟩
          have HBW43 := Lib.hid (HBW42.out.trans (hb.mono HBW42.out.size))
          clear hb
          go_wp2_with fail
          go_ret
          exact ⟨rfl, HBW43.out⟩
        have k0' : (K != []) = true := by rw [bne_iff_ne]; exact k0
        have k0'' : (K == []) = false := by rw [beq_eq_false_iff_ne]; exact k0
        have hpos : 0 < K.length := List.length_pos_iff.2 k0
        have hposI : (0 : Int) < (K.length : Int) := by omega
        obtain ⟨y, hy⟩ : ∃ y : Int, ((K.getD 0 0).toNat : Int) = y := ⟨_, rfl⟩
        have hix : ∀ W : World, (Instr.index 9 (.string ⟨K.toArray⟩) (.int .i64 0)).run Tryd.prog W = .ok (.int .u8 y) W := fun W => by
          have := idx_at K 0 hpos W
          rw [hy] at this
          exact this
        clear k0
        by_cases k1 : y = 123
        · have k1' : (y != 123) = false := by rw [k1]; rfl
          have k1'' : (y == 123) = true := by rw [k1]; rfl
          clear k1
          go_wp2_with (first | (refine wpList_load_row rfl 36 (.tmp 14) rfl wA.heap.size rfl 36 ({ n0 with mv := ⟨some ⟨v3.heap.size, 0, none⟩, 1, 1⟩, db := ⟨some ⟨wN.heap.size, 0, none⟩, 1, 1⟩ } : NV).cells (0, 0) _ HXT.out Tryd.underlying36 rfl (by kernel_rfl) ?_) | (refine wpList_load_rowG (by rfl) 36 (.tmp 14) rfl wA.heap.size rfl 36 ({ n0 with mv := ⟨some ⟨v3.heap.size, 0, none⟩, 1, 1⟩, db := ⟨some ⟨wN.heap.size, 0, none⟩, 1, 1⟩ } : NV).cells (0, 0) _ HXT.out Tryd.underlying36 rfl (by kernel_rfl) ?_))
          refine (HDone.out _ (Below.refl _ _)).mono ?_
          rintro e w41 ⟨rfl, hb⟩
          have HX41 := Lib.hid (HXT.out.later hb HXT.out.lt)
          have HB41 := Lib.hid hb
          have HBW41 := Lib.hid (HBT.out.trans (hb.mono HBT.out.size))
          clear hb
          go_wp2_with (first | (refine wpList_load_row rfl 36 (.tmp 14) rfl wA.heap.size rfl 36 ({ n0 with mv := ⟨some ⟨v3.heap.size, 0, none⟩, 1, 1⟩, db := ⟨some ⟨wN.heap.size, 0, none⟩, 1, 1⟩ } : NV).cells (0, 0) _ HX41.out Tryd.underlying36 rfl (by kernel_rfl) ?_) | (refine wpList_load_rowG (by rfl) 36 (.tmp 14) rfl wA.heap.size rfl 36 ({ n0 with mv := ⟨some ⟨v3.heap.size, 0, none⟩, 1, 1⟩, db := ⟨some ⟨wN.heap.size, 0, none⟩, 1, 1⟩ } : NV).cells (0, 0) _ HX41.out Tryd.underlying36 rfl (by kernel_rfl) ?_))
          refine (HDnil.out _ HB41.out).mono ?_
          rintro e w42 ⟨rfl, hb⟩
          have HBW42 := Lib.hid (HBW41.out.trans (hb.mono HBW41.out.size))
          clear hb
          go_wp2_with fail
          refine (HA.out _ HBW42.out).mono ?_
          rintro e w43 ⟨rfl, hb⟩
          have HBW43 := Lib.hid (HBW42.out.trans (hb.mono HBW42.out.size))
          clear hb
          go_wp2_with fail
          go_ret
          exact ⟨rfl, HBW43.out⟩
        have k1' : (y != 123) = true := by rw [bne_iff_ne]; exact k1
        have k1'' : (y == 123) = false := by rw [beq_eq_false_iff_ne]; exact k1
        by_cases k2 : 30 ≤ K.length
        · have k2' : decide ((K.length : Int) < 30) = false := decide_eq_false (by omega)
          go_wp2_with (first | (refine wpList_load_row rfl 36 (.tmp 14) rfl wA.heap.size rfl 36 ({ n0 with mv := ⟨some ⟨v3.heap.size, 0, none⟩, 1, 1⟩, db := ⟨some ⟨wN.heap.size, 0, none⟩, 1, 1⟩ } : NV).cells (0, 0) _ HXT.out Tryd.underlying36 rfl (by kernel_rfl) ?_) | (refine wpList_load_rowG (by rfl) 36 (.tmp 14) rfl wA.heap.size rfl 36 ({ n0 with mv := ⟨some ⟨v3.heap.size, 0, none⟩, 1, 1⟩, db := ⟨some ⟨wN.heap.size, 0, none⟩, 1, 1⟩ } : NV).cells (0, 0) _ HXT.out Tryd.underlying36 rfl (by kernel_rfl) ?_))
          refine (HDone.out _ (Below.refl _ _)).mono ?_
          rintro e w41 ⟨rfl, hb⟩
          have HX41 := Lib.hid (HXT.out.later hb HXT.out.lt)
          have HB41 := Lib.hid hb
          have HBW41 := Lib.hid (HBT.out.trans (hb.mono HBT.out.size))
          clear hb
          go_wp2_with (first | (refine wpList_load_row rfl 36 (.tmp 14) rfl wA.heap.size rfl 36 ({ n0 with mv := ⟨some ⟨v3.heap.size, 0, none⟩, 1, 1⟩, db := ⟨some ⟨wN.heap.size, 0, none⟩, 1, 1⟩ } : NV).cells (0, 0) _ HX41.out Tryd.underlying36 rfl (by kernel_rfl) ?_) | (refine wpList_load_rowG (by rfl) 36 (.tmp 14) rfl wA.heap.size rfl 36 ({ n0 with mv := ⟨some ⟨v3.heap.size, 0, none⟩, 1, 1⟩, db := ⟨some ⟨wN.heap.size, 0, none⟩, 1, 1⟩ } : NV).cells (0, 0) _ HX41.out Tryd.underlying36 rfl (by kernel_rfl) ?_))
          refine (HDnil.out _ HB41.out).mono ?_
          rintro e w42 ⟨rfl, hb⟩
          have HBW42 := Lib.hid (HBW41.out.trans (hb.mono HBW41.out.size))
          clear hb
          go_wp2_with fail
          refine (HA.out _ HBW42.out).mono ?_
          rintro e w43 ⟨rfl, hb⟩
          have HBW43 := Lib.hid (HBW42.out.trans (hb.mono HBW42.out.size))
          clear hb
          go_wp2_with fail
          go_ret
          exact ⟨rfl, HBW43.out⟩
        have k2' : decide ((K.length : Int) < 30) = true := decide_eq_true (by omega)
        have HTAG : Hid (∀ W : World, Calls Tryd.prog 22 #[.string ⟨K.toArray⟩] W fun e w' => e = .returned (.string ⟨(Tags.tag K).toArray⟩) ∧ W = w') := Lib.hid fun W => by
          have h := refTag_walk ⟨K.toArray⟩ W (by rw [hsz]; unfold maxLen; omega)
          simpa using h
        obtain ⟨tg, htg⟩ : ∃ tg, Tags.tag K = tg := ⟨_, rfl⟩
        rw [htg] at HTAG
        by_cases k3 : tg = K
        · have k3' : (tg == K) = true := by rw [beq_iff_eq]; exact k3
          have catO : (⟨#[123]⟩ : ByteArray) ++ ⟨K.toArray⟩ ++ ⟨#[125, 120]⟩ = ⟨(Rt.oth K).toArray⟩ := by
            apply ByteArray.ext; simp [Rt.oth]
          have hlO : (Rt.oth K).length ≤ 50 := by unfold Rt.oth; simp; omega
          obtain ⟨O, hO⟩ : ∃ O, Rt.oth K = O := ⟨_, rfl⟩
          rw [hO] at catO hlO
          have HO := Lib.hid hO
          have HROW : Hid (RowW w (.slice (some ⟨wC.heap.size, 0, none⟩) 1 1) [K] wT) := Lib.hid ⟨⟨by simp [wcells], .inr ⟨wC.heap.size, 1, #[.string ⟨K.toArray⟩], rfl, by omega, HGKT.out, Nat.le_refl _, by decide, rfl, by simp [wcells]⟩⟩, HBT.out⟩
          obtain ⟨iF, hiF, hiF0, hiF1, hiF2⟩ := info_parts info9
          have hwT : w.heap.size ≤ wT.heap.size := HBT.out.size
          have hK1 : [K].length = 1 := rfl
          clear hO htg k3 k1 hy
          go_wp2_with fail
          refine (HTAG.out _).mono ?_
          rintro e w30 ⟨rfl, rfl⟩
          go_wp2_with (at_builtin; refine wpList_append_own _ rfl (.tmp 156) (.tmp 160) 37 rfl w.heap.size 9 iF _ 1 16 Tryd.underlying37 hiF hiF0 hiF1 hiF2 rfl (by decide) _ _ _ rfl (HROW.out.1.alloc _) ⟨wT.heap.size, 0, none⟩ 1 1 [.string ⟨O.toArray⟩] rfl rfl (one_news _ _ rfl _ _) (by simp [Value.oneCell']) (by unfold maxLen; omega) (by omega) (by simp; omega) ?_; intro v1 w31 hown hgrow _; have HR1 := Lib.hid (HROW.out.append hown hgrow); have HKP := Lib.hid (Keeps.of_grown (S := fun k => some k ≠ (Value.slice (some ⟨wC.heap.size, 0, none⟩) 1 1).ownBlock) hgrow fun r e h => h e.symm); clear hown hgrow; obtain ⟨a2, c2, hv2, hw2, -⟩ := wds_of_row HR1.out.1 (by intro s hs; simp only [List.cons_append, List.nil_append, List.mem_cons, List.mem_nil_iff, or_false] at hs; rcases hs with rfl | rfl <;> omega); have hv3 : v1 = .slice a2 2 c2 := hv2; subst hv3; have HW2 : Hid (Wds w31 a2 c2 [K, O]) := Lib.hid hw2; clear hw2 hv2)
          have HSM : Hid (∀ b, b < wT.heap.size → b ≠ wC.heap.size → w31.heap[b]? = wT.heap[b]?) := Lib.hid fun b hb hne => by
            have h1 : (wT.alloc (.cells #[.string ⟨O.toArray⟩] 9)).heap[b]? = wT.heap[b]? := ((Below.refl wT.heap.size wT).alloc (Nat.le_refl _) _).block b hb
            rw [← h1]
            exact HKP.out.block b (by simp; omega) (fun e => hne (by injection e with e))
          have HB31 := Lib.hid HR1.out.2
          have hw31 : wT.heap.size ≤ w31.heap.size := Nat.le_trans (by simp) HKP.out.size
          have HX31 := Lib.hid (HKEEP.out w31 0 HSM.out).1
          obtain ⟨b2, o2, rfl, hbl2, hc2⟩ := HW2.out.get (by simp)
          have g1 := hc2 1 (by simp)
          simp only [List.getD_cons_succ, List.getD_cons_zero] at g1
          have HSO : Hid (∀ W : World, Calls Tryd.prog 18 #[.string ⟨O.toArray⟩] W fun e w' => e = .returned (.int .i64 (slotOf O : Int)) ∧ W = w') := Lib.hid fun W => refSlot_key O W (by omega)
          have hsl := slotOf_lt O
          obtain ⟨z, hz⟩ : ∃ z, slotOf O = z := ⟨_, rfl⟩
          rw [hz] at HSO hsl
          have hc2w := HW2.out.1
          have hc2m := HW2.out.2.1
          simp only [List.length_cons, List.length_nil] at hc2w
          have hia := idx_one b2 o2 c2 w31
          clear hc2
          go_wp2_with fail
          rw [hia]
          go_simp
          go_wp2_with fail
          refine (HSO.out _).mono ?_
          rintro e w32 ⟨rfl, rfl⟩
          by_cases hzx : z = x
          · have hzx' : ((z : Int) != (x : Int)) = false := by rw [hzx]; simp
            have HDtwo : Hid (Calls Tryd.prog 12 #[.agg ({ n0 with mv := ⟨some ⟨v3.heap.size, 0, none⟩, 1, 1⟩, db := ⟨some ⟨wN.heap.size, 0, none⟩, 1, 1⟩ } : NV).cells, .slice (some ⟨b2, o2, none⟩) 2 c2, .bool false] w31 fun e w' => e = .returned (.string ⟨(Rt.again : List UInt8).toArray⟩) ∧ Below w31.heap.size w31 w') := Lib.hid (by
              have h := HDA.out w31 (some ⟨b2, o2, none⟩) c2 [K, O] HB31.out HSM.out HW2.out (by simp)
              rw [Rt.pl4 i _ _ [K, O] x hxl (by simp) (by rw [Rt.one_two (by rw [hz, hzx, HXK.out]), HXK.out]) rfl] at h
              rw [Rt.mv_has2 _ _ K O (show (fun L => decide (K = L)) K = true by simp) (show (fun L => decide (K = L)) O = false by rw [← HO.out]; exact decide_eq_false (fun e => Rt.oth_ne K e.symm))] at h
              exact h)
            have HDn2 : Hid (∀ W, Below w31.heap.size w31 W → Calls Tryd.prog 12 #[.agg ({ n0 with mv := ⟨some ⟨v3.heap.size, 0, none⟩, 1, 1⟩, db := ⟨some ⟨wN.heap.size, 0, none⟩, 1, 1⟩ } : NV).cells, .slice none 0 0, .bool false] W fun e w' => e = .returned (.string ⟨#[]⟩) ∧ Below W.heap.size W w') := Lib.hid fun W hb => HDA.out W none 0 [] (HB31.out.trans (hb.mono HB31.out.size)) (fun b h1 h2 => (hb.block b (by omega)).trans (HSM.out b h1 h2)) (wds_nil W) (by simp)
            clear hzx hz g1
            go_wp2_with (first | (refine wpList_load_row rfl 36 (.tmp 14) rfl wA.heap.size rfl 36 ({ n0 with mv := ⟨some ⟨v3.heap.size, 0, none⟩, 1, 1⟩, db := ⟨some ⟨wN.heap.size, 0, none⟩, 1, 1⟩ } : NV).cells (0, 0) _ HX31.out Tryd.underlying36 rfl (by kernel_rfl) ?_) | (refine wpList_load_rowG (by rfl) 36 (.tmp 14) rfl wA.heap.size rfl 36 ({ n0 with mv := ⟨some ⟨v3.heap.size, 0, none⟩, 1, 1⟩, db := ⟨some ⟨wN.heap.size, 0, none⟩, 1, 1⟩ } : NV).cells (0, 0) _ HX31.out Tryd.underlying36 rfl (by kernel_rfl) ?_))
            refine (HDtwo.out).mono ?_
            rintro e w41 ⟨rfl, hb⟩
            have HX41 := Lib.hid (HX31.out.later hb HX31.out.lt)
            have HB41 := Lib.hid hb
            have HBW41 := Lib.hid (HB31.out.trans (hb.mono HB31.out.size))
            clear hb
            go_wp2_with (first | (refine wpList_load_row rfl 36 (.tmp 14) rfl wA.heap.size rfl 36 ({ n0 with mv := ⟨some ⟨v3.heap.size, 0, none⟩, 1, 1⟩, db := ⟨some ⟨wN.heap.size, 0, none⟩, 1, 1⟩ } : NV).cells (0, 0) _ HX41.out Tryd.underlying36 rfl (by kernel_rfl) ?_) | (refine wpList_load_rowG (by rfl) 36 (.tmp 14) rfl wA.heap.size rfl 36 ({ n0 with mv := ⟨some ⟨v3.heap.size, 0, none⟩, 1, 1⟩, db := ⟨some ⟨wN.heap.size, 0, none⟩, 1, 1⟩ } : NV).cells (0, 0) _ HX41.out Tryd.underlying36 rfl (by kernel_rfl) ?_))
            refine (HDn2.out _ HB41.out).mono ?_
            rintro e w42 ⟨rfl, hb⟩
            have HBW42 := Lib.hid (HBW41.out.trans (hb.mono HBW41.out.size))
            clear hb
            go_wp2_with fail
            refine (HA.out _ HBW42.out).mono ?_
            rintro e w43 ⟨rfl, hb⟩
            have HBW43 := Lib.hid (HBW42.out.trans (hb.mono HBW42.out.size))
            clear hb
            go_wp2_with fail
            go_ret
            exact ⟨rfl, HBW43.out⟩
          · have hzx' : ((z : Int) != (x : Int)) = true := by rw [bne_iff_ne]; omega
            clear hzx hz g1
            go_wp2_with fail
            refine (HA.out _ HB31.out).mono ?_
            rintro e w43 ⟨rfl, hb⟩
            have HBW43 := Lib.hid (HB31.out.trans (hb.mono HB31.out.size))
            clear hb
            go_wp2_with fail
            go_ret
            exact ⟨rfl, HBW43.out⟩
        · have k3' : (tg == K) = false := by rw [beq_eq_false_iff_ne]; exact k3
          clear htg k3
          go_wp2_with fail
          refine (HTAG.out _).mono ?_
          rintro e w30 ⟨rfl, rfl⟩
          go_wp2_with (first | (refine wpList_load_row rfl 36 (.tmp 14) rfl wA.heap.size rfl 36 ({ n0 with mv := ⟨some ⟨v3.heap.size, 0, none⟩, 1, 1⟩, db := ⟨some ⟨wN.heap.size, 0, none⟩, 1, 1⟩ } : NV).cells (0, 0) _ HXT.out Tryd.underlying36 rfl (by kernel_rfl) ?_) | (refine wpList_load_rowG (by rfl) 36 (.tmp 14) rfl wA.heap.size rfl 36 ({ n0 with mv := ⟨some ⟨v3.heap.size, 0, none⟩, 1, 1⟩, db := ⟨some ⟨wN.heap.size, 0, none⟩, 1, 1⟩ } : NV).cells (0, 0) _ HXT.out Tryd.underlying36 rfl (by kernel_rfl) ?_))
          refine (HDone.out _ (Below.refl _ _)).mono ?_
          rintro e w41 ⟨rfl, hb⟩
          have HX41 := Lib.hid (HXT.out.later hb HXT.out.lt)
          have HB41 := Lib.hid hb
          have HBW41 := Lib.hid (HBT.out.trans (hb.mono HBT.out.size))
          clear hb
          go_wp2_with (first | (refine wpList_load_row rfl 36 (.tmp 14) rfl wA.heap.size rfl 36 ({ n0 with mv := ⟨some ⟨v3.heap.size, 0, none⟩, 1, 1⟩, db := ⟨some ⟨wN.heap.size, 0, none⟩, 1, 1⟩ } : NV).cells (0, 0) _ HX41.out Tryd.underlying36 rfl (by kernel_rfl) ?_) | (refine wpList_load_rowG (by rfl) 36 (.tmp 14) rfl wA.heap.size rfl 36 ({ n0 with mv := ⟨some ⟨v3.heap.size, 0, none⟩, 1, 1⟩, db := ⟨some ⟨wN.heap.size, 0, none⟩, 1, 1⟩ } : NV).cells (0, 0) _ HX41.out Tryd.underlying36 rfl (by kernel_rfl) ?_))
          refine (HDnil.out _ HB41.out).mono ?_
          rintro e w42 ⟨rfl, hb⟩
          have HBW42 := Lib.hid (HBW41.out.trans (hb.mono HBW41.out.size))
          clear hb
          go_wp2_with fail
          refine (HA.out _ HBW42.out).mono ?_
          rintro e w43 ⟨rfl, hb⟩
          have HBW43 := Lib.hid (HBW42.out.trans (hb.mono HBW42.out.size))
          clear hb
          go_wp2_with fail
          go_ret
          exact ⟨rfl, HBW43.out⟩
    | true =>
      have y7 := HXQ.out.few.2.2.2.2
      obtain ⟨q0, q1, q2, q3⟩ := HMQ.out.at
      have e2 := mv_free HMQ.out 2
      have hm1 := mv_set2 HMQ.out 1
      have hx1 := HXQ.out.far (show v3.heap.size ≠ wA.heap.size by omega) 2 (.int .i64 1)
      have ha1 := heap_far HG0Q.out (show v3.heap.size ≠ w.heap.size by omega) 2 (.int .i64 1)
      have hk1 := heap_far HGKQ.out (show v3.heap.size ≠ wC.heap.size by omega) 2 (.int .i64 1)
      have hp1 := heap_far HPQ.out (show v3.heap.size ≠ wN.heap.size by omega) 2 (.int .i64 1)
      have hwv3 : w.heap.size ≤ v3.heap.size := by have := HBD.out.size; omega
      have hb1 := HBQ.out.setCell (p := ⟨v3.heap.size, 2, none⟩) hwv3 (.int .i64 1)
      obtain ⟨wR, hwR⟩ : ∃ wR, wQ.setCell ⟨v3.heap.size, 2, none⟩ (.int .i64 1) = wR := ⟨_, rfl⟩
      rw [hwR] at hm1 hx1 ha1 hk1 hp1 hb1
      have u7 := hx1.few.2.2.2.2
      obtain ⟨t0', t1', t2', t3'⟩ := hm1.at
      have e3 := mv_free hm1 3
      have hm2 := mv_set3 hm1 K
      have hx2 := hx1.far (show v3.heap.size ≠ wA.heap.size by omega) 3 (.string ⟨K.toArray⟩)
      have ha2 := heap_far ha1 (show v3.heap.size ≠ w.heap.size by omega) 3 (.string ⟨K.toArray⟩)
      have hk2 := heap_far hk1 (show v3.heap.size ≠ wC.heap.size by omega) 3 (.string ⟨K.toArray⟩)
      have hp2 := heap_far hp1 (show v3.heap.size ≠ wN.heap.size by omega) 3 (.string ⟨K.toArray⟩)
      have hb2 := hb1.setCell (p := ⟨v3.heap.size, 3, none⟩) hwv3 (.string ⟨K.toArray⟩)
      obtain ⟨wS, hwS⟩ : ∃ wS, wR.setCell ⟨v3.heap.size, 3, none⟩ (.string ⟨K.toArray⟩) = wS := ⟨_, rfl⟩
      rw [hwS] at hm2 hx2 ha2 hk2 hp2 hb2
      have hsR : wQ.heap.size ≤ wR.heap.size := by rw [← hwR]; simp [World.setCell]
      have hsS : wR.heap.size ≤ wS.heap.size := by rw [← hwS]; simp [World.setCell]
      have HXS := Lib.hid hx2
      have HMS := Lib.hid hm2
      have HG0S := Lib.hid ha2
      have HGKS := Lib.hid hk2
      have HPS := Lib.hid hp2
      have HBS := Lib.hid hb2
      clear hm1 hx1 ha1 hk1 hp1 hb1 hm2 hx2 ha2 hk2 hp2 hb2 HXQ HMQ HG0Q HGKQ HPQ HBQ
      go_wp2_with fail
      refine (HDX.out _).mono ?_
      rintro e w20 ⟨rfl, hb⟩
      have HB20 := Lib.hid hb
      clear hb
      go_wp2_with fail
      refine (HDJ.out _).mono ?_
      rintro e wT ⟨rfl, hb⟩
      have hbT := HB20.out.trans (hb.mono HB20.out.size)
      have HXT := Lib.hid (HXS.out.later hbT HXS.out.lt)
      have HMT := Lib.hid (HMS.out.later hbT (Array.getElem?_eq_some_iff.1 HMS.out).1)
      have HG0T := Lib.hid ((hbT.block _ (Array.getElem?_eq_some_iff.1 HG0S.out).1).trans HG0S.out)
      have HGKT := Lib.hid ((hbT.block _ (Array.getElem?_eq_some_iff.1 HGKS.out).1).trans HGKS.out)
      have HPT := Lib.hid ((hbT.block _ (Array.getElem?_eq_some_iff.1 HPS.out).1).trans HPS.out)
      have HBT := Lib.hid (HBS.out.trans (hbT.mono HBS.out.size))
      clear hb hbT HXS HMS HG0S HGKS HPS HBS HB20 hwM hwN hwP hwQ hwR hwS z6 f6 z7 f7 y7 q0 q1 q2 q3 e2 u7 t0' t1' t2' t3' e3
      -- the node as it stands now
      have HNT : Hid (∀ W : World, NdBox W wA.heap.size ({ n0 with mv := ⟨some ⟨v3.heap.size, 0, none⟩, 1, 1⟩, db := ⟨some ⟨wN.heap.size, 0, none⟩, 1, 1⟩ } : NV) ∧ MvBox W v3.heap.size (x : Int) j 1 K ∧ W.heap[w.heap.size]? = some (.cells #[.int .i64 0, .int .i64 16383, .int .i64 i, .int .i64 1] 64 (0, 0)) ∧ W.heap[wN.heap.size]? = some (.cells #[.string ⟨K.toArray⟩, .int .i64 1, .string ⟨#[]⟩, .slice none 0 0, .slice none 0 0, .int .i64 0] 70 (0, 0)) → Node W ({ n0 with mv := ⟨some ⟨v3.heap.size, 0, none⟩, 1, 1⟩, db := ⟨some ⟨wN.heap.size, 0, none⟩, 1, 1⟩ } : NV) ⟨i, -1, [Rt.ownC i], fun L => decide (K = L), [⟨(x : Int), j, 1, K⟩]⟩ [pairK K]) := Lib.hid fun W ⟨_, hM', hC', hP⟩ => by
        rw [← HN0.out]
        exact { id := rfl, ms := rfl, idr := ⟨by show _ ≤ i; omega, by show i ≤ _; omega⟩, msr := ⟨by show (_ : Int) ≤ -1; decide, by show (-1 : Int) ≤ _; decide⟩, cln := rfl, cl := cls_at bi hC', dbn := rfl, db := prs_at hK (hP), has := (by funext L; exact (raw_one K L).symm), mvn := rfl, mv := mvs_at (m := ⟨(x : Int), j, 1, K⟩) ⟨by simp only; omega, by simp only; omega, by simp only; omega, by simp only; exact hK⟩ hM' }
      have HMEM0 : Hid (NdBox wT wA.heap.size ({ n0 with mv := ⟨some ⟨v3.heap.size, 0, none⟩, 1, 1⟩, db := ⟨some ⟨wN.heap.size, 0, none⟩, 1, 1⟩ } : NV) ∧ MvBox wT v3.heap.size (x : Int) j 1 K ∧ wT.heap[w.heap.size]? = some (.cells #[.int .i64 0, .int .i64 16383, .int .i64 i, .int .i64 1] 64 (0, 0)) ∧ wT.heap[wN.heap.size]? = some (.cells #[.string ⟨K.toArray⟩, .int .i64 1, .string ⟨#[]⟩, .slice none 0 0, .slice none 0 0, .int .i64 0] 70 (0, 0))) := Lib.hid ⟨HXT.out, HMT.out, HG0T.out, HPT.out⟩
      have HKEEP : Hid (∀ (W : World) (g : Nat), (∀ b, b < wT.heap.size → b ≠ wC.heap.size → W.heap[b]? = wT.heap[b]?) → NdBox W wA.heap.size ({ n0 with mv := ⟨some ⟨v3.heap.size, 0, none⟩, 1, 1⟩, db := ⟨some ⟨wN.heap.size, 0, none⟩, 1, 1⟩ } : NV) ∧ MvBox W v3.heap.size (x : Int) j 1 K ∧ W.heap[w.heap.size]? = some (.cells #[.int .i64 0, .int .i64 16383, .int .i64 i, .int .i64 1] 64 (0, 0)) ∧ W.heap[wN.heap.size]? = some (.cells #[.string ⟨K.toArray⟩, .int .i64 1, .string ⟨#[]⟩, .slice none 0 0, .slice none 0 0, .int .i64 0] 70 (0, 0))) := Lib.hid fun W g h => ⟨(h _ HXT.out.lt (by omega)).trans HXT.out, (h _ (Array.getElem?_eq_some_iff.1 HMT.out).1 (by omega)).trans HMT.out, (h _ (Array.getElem?_eq_some_iff.1 HG0T.out).1 (by omega)).trans HG0T.out, (h _ (Array.getElem?_eq_some_iff.1 HPT.out).1 (by omega)).trans HPT.out⟩
      have HDA : Hid (∀ (W : World) (a : Option Addr) (c : Nat) (ks : List (List UInt8)), Below w.heap.size w W → (∀ b, b < wT.heap.size → b ≠ wC.heap.size → W.heap[b]? = wT.heap[b]?) → Wds W a c ks → ks.length ≤ 2 → Calls Tryd.prog 12 #[.agg ({ n0 with mv := ⟨some ⟨v3.heap.size, 0, none⟩, 1, 1⟩, db := ⟨some ⟨wN.heap.size, 0, none⟩, 1, 1⟩ } : NV).cells, .slice a ks.length c, .bool false] W fun e w' => e = .returned (.string ⟨(Rt.decideS ⟨i, -1, [Rt.ownC i], fun L => decide (K = L), [⟨(x : Int), j, 1, K⟩]⟩ ks false).toArray⟩) ∧ Below W.heap.size W w') := Lib.hid fun W a c ks hb hk hW hl =>
        HDEC.out W ({ n0 with mv := ⟨some ⟨v3.heap.size, 0, none⟩, 1, 1⟩, db := ⟨some ⟨wN.heap.size, 0, none⟩, 1, 1⟩ } : NV) _ [pairK K] false a c ks hb (HNT.out W (HKEEP.out W 0 hk)) (by simp) (asc_one _) (sm_one hKl) (by simp) rfl hW hl
      have HDone : Hid (∀ W, Below wT.heap.size wT W → Calls Tryd.prog 12 #[.agg ({ n0 with mv := ⟨some ⟨v3.heap.size, 0, none⟩, 1, 1⟩, db := ⟨some ⟨wN.heap.size, 0, none⟩, 1, 1⟩ } : NV).cells, .slice (some ⟨wC.heap.size, 0, none⟩) 1 1, .bool false] W fun e w' => e = .returned (.string ⟨(Rt.again : List UInt8).toArray⟩) ∧ Below W.heap.size W w') := Lib.hid fun W hb => by
        have h := HDA.out W (some ⟨wC.heap.size, 0, none⟩) 1 [K] (HBT.out.trans (hb.mono HBT.out.size)) (fun b h1 _ => hb.block b h1) (wds_at hK ((hb.block _ (Array.getElem?_eq_some_iff.1 HGKT.out).1).trans HGKT.out)) (by simp)
        rw [Rt.pl4 i _ _ [K] x hxl (by simp) (by rw [Rt.one_one, HXK.out]) rfl] at h
        rw [Rt.mv_lock _ _ K [] (show (0 : Int) < 1 by decide) rfl] at h
        exact h
      have HDnil : Hid (∀ W, Below wT.heap.size wT W → Calls Tryd.prog 12 #[.agg ({ n0 with mv := ⟨some ⟨v3.heap.size, 0, none⟩, 1, 1⟩, db := ⟨some ⟨wN.heap.size, 0, none⟩, 1, 1⟩ } : NV).cells, .slice none 0 0, .bool false] W fun e w' => e = .returned (.string ⟨#[]⟩) ∧ Below W.heap.size W w') := Lib.hid fun W hb => HDA.out W none 0 [] (HBT.out.trans (hb.mono HBT.out.size)) (fun b h1 _ => hb.block b h1) (wds_nil W) (by simp)
      clear HNT HND HN0E
      cases other with
      | false =>
        go_wp2_with (first | (refine wpList_load_row rfl 36 (.tmp 14) rfl wA.heap.size rfl 36 ({ n0 with mv := ⟨some ⟨v3.heap.size, 0, none⟩, 1, 1⟩, db := ⟨some ⟨wN.heap.size, 0, none⟩, 1, 1⟩ } : NV).cells (0, 0) _ HXT.out Tryd.underlying36 rfl (by kernel_rfl) ?_) | (refine wpList_load_rowG (by rfl) 36 (.tmp 14) rfl wA.heap.size rfl 36 ({ n0 with mv := ⟨some ⟨v3.heap.size, 0, none⟩, 1, 1⟩, db := ⟨some ⟨wN.heap.size, 0, none⟩, 1, 1⟩ } : NV).cells (0, 0) _ HXT.out Tryd.underlying36 rfl (by kernel_rfl) ?_))
        refine (HDone.out _ (Below.refl _ _)).mono ?_
        rintro e w41 ⟨rfl, hb⟩
        have HX41 := Lib.hid (HXT.out.later hb HXT.out.lt)
        have HB41 := Lib.hid hb
        have HBW41 := Lib.hid (HBT.out.trans (hb.mono HBT.out.size))
        clear hb
        go_wp2_with (first | (refine wpList_load_row rfl 36 (.tmp 14) rfl wA.heap.size rfl 36 ({ n0 with mv := ⟨some ⟨v3.heap.size, 0, none⟩, 1, 1⟩, db := ⟨some ⟨wN.heap.size, 0, none⟩, 1, 1⟩ } : NV).cells (0, 0) _ HX41.out Tryd.underlying36 rfl (by kernel_rfl) ?_) | (refine wpList_load_rowG (by rfl) 36 (.tmp 14) rfl wA.heap.size rfl 36 ({ n0 with mv := ⟨some ⟨v3.heap.size, 0, none⟩, 1, 1⟩, db := ⟨some ⟨wN.heap.size, 0, none⟩, 1, 1⟩ } : NV).cells (0, 0) _ HX41.out Tryd.underlying36 rfl (by kernel_rfl) ?_))
        refine (HDnil.out _ HB41.out).mono ?_
        rintro e w42 ⟨rfl, hb⟩
        have HBW42 := Lib.hid (HBW41.out.trans (hb.mono HBW41.out.size))
        clear hb
        go_wp2_with fail
        refine (HA.out _ HBW42.out).mono ?_
        rintro e w43 ⟨rfl, hb⟩
        have HBW43 := Lib.hid (HBW42.out.trans (hb.mono HBW42.out.size))
        clear hb
        go_wp2_with fail
        go_ret
        exact ⟨rfl, HBW43.out⟩
      | true =>
        by_cases k0 : K = []
        · have k0' : (K != []) = false := by rw [k0]; rfl
          have k0'' : (K == []) = true := by rw [k0]; rfl
          clear k0
          go_wp2_with (first | (refine wpList_load_row rfl 36 (.tmp 14) rfl wA.heap.size rfl 36 ({ n0 with mv := ⟨some ⟨v3.heap.size, 0, none⟩, 1, 1⟩, db := ⟨some ⟨wN.heap.size, 0, none⟩, 1, 1⟩ } : NV).cells (0, 0) _ HXT.out Tryd.underlying36 rfl (by kernel_rfl) ?_) | (refine wpList_load_rowG (by rfl) 36 (.tmp 14) rfl wA.heap.size rfl 36 ({ n0 with mv := ⟨some ⟨v3.heap.size, 0, none⟩, 1, 1⟩, db := ⟨some ⟨wN.heap.size, 0, none⟩, 1, 1⟩ } : NV).cells (0, 0) _ HXT.out Tryd.underlying36 rfl (by kernel_rfl) ?_))
          refine (HDone.out _ (Below.refl _ _)).mono ?_
          rintro e w41 ⟨rfl, hb⟩
          have HX41 := Lib.hid (HXT.out.later hb HXT.out.lt)
          have HB41 := Lib.hid hb
          have HBW41 := Lib.hid (HBT.out.trans (hb.mono HBT.out.size))
          clear hb
          go_wp2_with (first | (refine wpList_load_row rfl 36 (.tmp 14) rfl wA.heap.size rfl 36 ({ n0 with mv := ⟨some ⟨v3.heap.size, 0, none⟩, 1, 1⟩, db := ⟨some ⟨wN.heap.size, 0, none⟩, 1, 1⟩ } : NV).cells (0, 0) _ HX41.out Tryd.underlying36 rfl (by kernel_rfl) ?_) | (refine wpList_load_rowG (by rfl) 36 (.tmp 14) rfl wA.heap.size rfl 36 ({ n0 with mv := ⟨some ⟨v3.heap.size, 0, none⟩, 1, 1⟩, db := ⟨some ⟨wN.heap.size, 0, none⟩, 1, 1⟩ } : NV).cells (0, 0) _ HX41.out Tryd.underlying36 rfl (by kernel_rfl) ?_))
          refine (HDnil.out _ HB41.out).mono ?_
          rintro e w42 ⟨rfl, hb⟩
          have HBW42 := Lib.hid (HBW41.out.trans (hb.mono HBW41.out.size))
          clear hb
          go_wp2_with fail
          refine (HA.out _ HBW42.out).mono ?_
          rintro e w43 ⟨rfl, hb⟩
          have HBW43 := Lib.hid (HBW42.out.trans (hb.mono HBW42.out.size))
          clear hb
          go_wp2_with fail
          go_ret
          exact ⟨rfl, HBW43.out⟩
        have k0' : (K != []) = true := by rw [bne_iff_ne]; exact k0
        have k0'' : (K == []) = false := by rw [beq_eq_false_iff_ne]; exact k0
        have hpos : 0 < K.length := List.length_pos_iff.2 k0
        have hposI : (0 : Int) < (K.length : Int) := by omega
        obtain ⟨y, hy⟩ : ∃ y : Int, ((K.getD 0 0).toNat : Int) = y := ⟨_, rfl⟩
        have hix : ∀ W : World, (Instr.index 9 (.string ⟨K.toArray⟩) (.int .i64 0)).run Tryd.prog W = .ok (.int .u8 y) W := fun W => by
          have := idx_at K 0 hpos W
          rw [hy] at this
          exact this
        clear k0
        by_cases k1 : y = 123
        · have k1' : (y != 123) = false := by rw [k1]; rfl
          have k1'' : (y == 123) = true := by rw [k1]; rfl
          clear k1
          go_wp2_with (first | (refine wpList_load_row rfl 36 (.tmp 14) rfl wA.heap.size rfl 36 ({ n0 with mv := ⟨some ⟨v3.heap.size, 0, none⟩, 1, 1⟩, db := ⟨some ⟨wN.heap.size, 0, none⟩, 1, 1⟩ } : NV).cells (0, 0) _ HXT.out Tryd.underlying36 rfl (by kernel_rfl) ?_) | (refine wpList_load_rowG (by rfl) 36 (.tmp 14) rfl wA.heap.size rfl 36 ({ n0 with mv := ⟨some ⟨v3.heap.size, 0, none⟩, 1, 1⟩, db := ⟨some ⟨wN.heap.size, 0, none⟩, 1, 1⟩ } : NV).cells (0, 0) _ HXT.out Tryd.underlying36 rfl (by kernel_rfl) ?_))
          refine (HDone.out _ (Below.refl _ _)).mono ?_
          rintro e w41 ⟨rfl, hb⟩
          have HX41 := Lib.hid (HXT.out.later hb HXT.out.lt)
          have HB41 := Lib.hid hb
          have HBW41 := Lib.hid (HBT.out.trans (hb.mono HBT.out.size))
          clear hb
          go_wp2_with (first | (refine wpList_load_row rfl 36 (.tmp 14) rfl wA.heap.size rfl 36 ({ n0 with mv := ⟨some ⟨v3.heap.size, 0, none⟩, 1, 1⟩, db := ⟨some ⟨wN.heap.size, 0, none⟩, 1, 1⟩ } : NV).cells (0, 0) _ HX41.out Tryd.underlying36 rfl (by kernel_rfl) ?_) | (refine wpList_load_rowG (by rfl) 36 (.tmp 14) rfl wA.heap.size rfl 36 ({ n0 with mv := ⟨some ⟨v3.heap.size, 0, none⟩, 1, 1⟩, db := ⟨some ⟨wN.heap.size, 0, none⟩, 1, 1⟩ } : NV).cells (0, 0) _ HX41.out Tryd.underlying36 rfl (by kernel_rfl) ?_))
          refine (HDnil.out _ HB41.out).mono ?_
          rintro e w42 ⟨rfl, hb⟩
          have HBW42 := Lib.hid (HBW41.out.trans (hb.mono HBW41.out.size))
          clear hb
          go_wp2_with fail
          refine (HA.out _ HBW42.out).mono ?_
          rintro e w43 ⟨rfl, hb⟩
          have HBW43 := Lib.hid (HBW42.out.trans (hb.mono HBW42.out.size))
          clear hb
          go_wp2_with fail
          go_ret
          exact ⟨rfl, HBW43.out⟩
        have k1' : (y != 123) = true := by rw [bne_iff_ne]; exact k1
        have k1'' : (y == 123) = false := by rw [beq_eq_false_iff_ne]; exact k1
        by_cases k2 : 30 ≤ K.length
        · have k2' : decide ((K.length : Int) < 30) = false := decide_eq_false (by omega)
          go_wp2_with (first | (refine wpList_load_row rfl 36 (.tmp 14) rfl wA.heap.size rfl 36 ({ n0 with mv := ⟨some ⟨v3.heap.size, 0, none⟩, 1, 1⟩, db := ⟨some ⟨wN.heap.size, 0, none⟩, 1, 1⟩ } : NV).cells (0, 0) _ HXT.out Tryd.underlying36 rfl (by kernel_rfl) ?_) | (refine wpList_load_rowG (by rfl) 36 (.tmp 14) rfl wA.heap.size rfl 36 ({ n0 with mv := ⟨some ⟨v3.heap.size, 0, none⟩, 1, 1⟩, db := ⟨some ⟨wN.heap.size, 0, none⟩, 1, 1⟩ } : NV).cells (0, 0) _ HXT.out Tryd.underlying36 rfl (by kernel_rfl) ?_))
          refine (HDone.out _ (Below.refl _ _)).mono ?_
          rintro e w41 ⟨rfl, hb⟩
          have HX41 := Lib.hid (HXT.out.later hb HXT.out.lt)
          have HB41 := Lib.hid hb
          have HBW41 := Lib.hid (HBT.out.trans (hb.mono HBT.out.size))
          clear hb
          go_wp2_with (first | (refine wpList_load_row rfl 36 (.tmp 14) rfl wA.heap.size rfl 36 ({ n0 with mv := ⟨some ⟨v3.heap.size, 0, none⟩, 1, 1⟩, db := ⟨some ⟨wN.heap.size, 0, none⟩, 1, 1⟩ } : NV).cells (0, 0) _ HX41.out Tryd.underlying36 rfl (by kernel_rfl) ?_) | (refine wpList_load_rowG (by rfl) 36 (.tmp 14) rfl wA.heap.size rfl 36 ({ n0 with mv := ⟨some ⟨v3.heap.size, 0, none⟩, 1, 1⟩, db := ⟨some ⟨wN.heap.size, 0, none⟩, 1, 1⟩ } : NV).cells (0, 0) _ HX41.out Tryd.underlying36 rfl (by kernel_rfl) ?_))
          refine (HDnil.out _ HB41.out).mono ?_
          rintro e w42 ⟨rfl, hb⟩
          have HBW42 := Lib.hid (HBW41.out.trans (hb.mono HBW41.out.size))
          clear hb
          go_wp2_with fail
          refine (HA.out _ HBW42.out).mono ?_
          rintro e w43 ⟨rfl, hb⟩
          have HBW43 := Lib.hid (HBW42.out.trans (hb.mono HBW42.out.size))
          clear hb
          go_wp2_with fail
          go_ret
          exact ⟨rfl, HBW43.out⟩
        have k2' : decide ((K.length : Int) < 30) = true := decide_eq_true (by omega)
        have HTAG : Hid (∀ W : World, Calls Tryd.prog 22 #[.string ⟨K.toArray⟩] W fun e w' => e = .returned (.string ⟨(Tags.tag K).toArray⟩) ∧ W = w') := Lib.hid fun W => by
          have h := refTag_walk ⟨K.toArray⟩ W (by rw [hsz]; unfold maxLen; omega)
          simpa using h
        obtain ⟨tg, htg⟩ : ∃ tg, Tags.tag K = tg := ⟨_, rfl⟩
        rw [htg] at HTAG
        by_cases k3 : tg = K
        · have k3' : (tg == K) = true := by rw [beq_iff_eq]; exact k3
          have catO : (⟨#[123]⟩ : ByteArray) ++ ⟨K.toArray⟩ ++ ⟨#[125, 120]⟩ = ⟨(Rt.oth K).toArray⟩ := by
            apply ByteArray.ext; simp [Rt.oth]
          have hlO : (Rt.oth K).length ≤ 50 := by unfold Rt.oth; simp; omega
          obtain ⟨O, hO⟩ : ∃ O, Rt.oth K = O := ⟨_, rfl⟩
          rw [hO] at catO hlO
          have HO := Lib.hid hO
          have HROW : Hid (RowW w (.slice (some ⟨wC.heap.size, 0, none⟩) 1 1) [K] wT) := Lib.hid ⟨⟨by simp [wcells], .inr ⟨wC.heap.size, 1, #[.string ⟨K.toArray⟩], rfl, by omega, HGKT.out, Nat.le_refl _, by decide, rfl, by simp [wcells]⟩⟩, HBT.out⟩
          obtain ⟨iF, hiF, hiF0, hiF1, hiF2⟩ := info_parts info9
          have hwT : w.heap.size ≤ wT.heap.size := HBT.out.size
          have hK1 : [K].length = 1 := rfl
          clear hO htg k3 k1 hy
          go_wp2_with fail
          refine (HTAG.out _).mono ?_
          rintro e w30 ⟨rfl, rfl⟩
          go_wp2_with (at_builtin; refine wpList_append_own _ rfl (.tmp 156) (.tmp 160) 37 rfl w.heap.size 9 iF _ 1 16 Tryd.underlying37 hiF hiF0 hiF1 hiF2 rfl (by decide) _ _ _ rfl (HROW.out.1.alloc _) ⟨wT.heap.size, 0, none⟩ 1 1 [.string ⟨O.toArray⟩] rfl rfl (one_news _ _ rfl _ _) (by simp [Value.oneCell']) (by unfold maxLen; omega) (by omega) (by simp; omega) ?_; intro v1 w31 hown hgrow _; have HR1 := Lib.hid (HROW.out.append hown hgrow); have HKP := Lib.hid (Keeps.of_grown (S := fun k => some k ≠ (Value.slice (some ⟨wC.heap.size, 0, none⟩) 1 1).ownBlock) hgrow fun r e h => h e.symm); clear hown hgrow; obtain ⟨a2, c2, hv2, hw2, -⟩ := wds_of_row HR1.out.1 (by intro s hs; simp only [List.cons_append, List.nil_append, List.mem_cons, List.mem_nil_iff, or_false] at hs; rcases hs with rfl | rfl <;> omega); have hv3 : v1 = .slice a2 2 c2 := hv2; subst hv3; have HW2 : Hid (Wds w31 a2 c2 [K, O]) := Lib.hid hw2; clear hw2 hv2)
          have HSM : Hid (∀ b, b < wT.heap.size → b ≠ wC.heap.size → w31.heap[b]? = wT.heap[b]?) := Lib.hid fun b hb hne => by
            have h1 : (wT.alloc (.cells #[.string ⟨O.toArray⟩] 9)).heap[b]? = wT.heap[b]? := ((Below.refl wT.heap.size wT).alloc (Nat.le_refl _) _).block b hb
            rw [← h1]
            exact HKP.out.block b (by simp; omega) (fun e => hne (by injection e with e))
          have HB31 := Lib.hid HR1.out.2
          have hw31 : wT.heap.size ≤ w31.heap.size := Nat.le_trans (by simp) HKP.out.size
          have HX31 := Lib.hid (HKEEP.out w31 0 HSM.out).1
          obtain ⟨b2, o2, rfl, hbl2, hc2⟩ := HW2.out.get (by simp)
          have g1 := hc2 1 (by simp)
          simp only [List.getD_cons_succ, List.getD_cons_zero] at g1
          have HSO : Hid (∀ W : World, Calls Tryd.prog 18 #[.string ⟨O.toArray⟩] W fun e w' => e = .returned (.int .i64 (slotOf O : Int)) ∧ W = w') := Lib.hid fun W => refSlot_key O W (by omega)
          have hsl := slotOf_lt O
          obtain ⟨z, hz⟩ : ∃ z, slotOf O = z := ⟨_, rfl⟩
          rw [hz] at HSO hsl
          have hc2w := HW2.out.1
          have hc2m := HW2.out.2.1
          simp only [List.length_cons, List.length_nil] at hc2w
          have hia := idx_one b2 o2 c2 w31
          clear hc2
          go_wp2_with fail
          rw [hia]
          go_simp
          go_wp2_with fail
          refine (HSO.out _).mono ?_
          rintro e w32 ⟨rfl, rfl⟩
          by_cases hzx : z = x
          · have hzx' : ((z : Int) != (x : Int)) = false := by rw [hzx]; simp
            have HDtwo : Hid (Calls Tryd.prog 12 #[.agg ({ n0 with mv := ⟨some ⟨v3.heap.size, 0, none⟩, 1, 1⟩, db := ⟨some ⟨wN.heap.size, 0, none⟩, 1, 1⟩ } : NV).cells, .slice (some ⟨b2, o2, none⟩) 2 c2, .bool false] w31 fun e w' => e = .returned (.string ⟨(Rt.again : List UInt8).toArray⟩) ∧ Below w31.heap.size w31 w') := Lib.hid (by
              have h := HDA.out w31 (some ⟨b2, o2, none⟩) c2 [K, O] HB31.out HSM.out HW2.out (by simp)
              rw [Rt.pl4 i _ _ [K, O] x hxl (by simp) (by rw [Rt.one_two (by rw [hz, hzx, HXK.out]), HXK.out]) rfl] at h
              rw [Rt.mv_lock _ _ K [O] (show (0 : Int) < 1 by decide) rfl] at h
              exact h)
            have HDn2 : Hid (∀ W, Below w31.heap.size w31 W → Calls Tryd.prog 12 #[.agg ({ n0 with mv := ⟨some ⟨v3.heap.size, 0, none⟩, 1, 1⟩, db := ⟨some ⟨wN.heap.size, 0, none⟩, 1, 1⟩ } : NV).cells, .slice none 0 0, .bool false] W fun e w' => e = .returned (.string ⟨#[]⟩) ∧ Below W.heap.size W w') := Lib.hid fun W hb => HDA.out W none 0 [] (HB31.out.trans (hb.mono HB31.out.size)) (fun b h1 h2 => (hb.block b (by omega)).trans (HSM.out b h1 h2)) (wds_nil W) (by simp)
            clear hzx hz g1
            go_wp2_with (first | (refine wpList_load_row rfl 36 (.tmp 14) rfl wA.heap.size rfl 36 ({ n0 with mv := ⟨some ⟨v3.heap.size, 0, none⟩, 1, 1⟩, db := ⟨some ⟨wN.heap.size, 0, none⟩, 1, 1⟩ } : NV).cells (0, 0) _ HX31.out Tryd.underlying36 rfl (by kernel_rfl) ?_) | (refine wpList_load_rowG (by rfl) 36 (.tmp 14) rfl wA.heap.size rfl 36 ({ n0 with mv := ⟨some ⟨v3.heap.size, 0, none⟩, 1, 1⟩, db := ⟨some ⟨wN.heap.size, 0, none⟩, 1, 1⟩ } : NV).cells (0, 0) _ HX31.out Tryd.underlying36 rfl (by kernel_rfl) ?_))
            refine (HDtwo.out).mono ?_
            rintro e w41 ⟨rfl, hb⟩
            have HX41 := Lib.hid (HX31.out.later hb HX31.out.lt)
            have HB41 := Lib.hid hb
            have HBW41 := Lib.hid (HB31.out.trans (hb.mono HB31.out.size))
            clear hb
            go_wp2_with (first | (refine wpList_load_row rfl 36 (.tmp 14) rfl wA.heap.size rfl 36 ({ n0 with mv := ⟨some ⟨v3.heap.size, 0, none⟩, 1, 1⟩, db := ⟨some ⟨wN.heap.size, 0, none⟩, 1, 1⟩ } : NV).cells (0, 0) _ HX41.out Tryd.underlying36 rfl (by kernel_rfl) ?_) | (refine wpList_load_rowG (by rfl) 36 (.tmp 14) rfl wA.heap.size rfl 36 ({ n0 with mv := ⟨some ⟨v3.heap.size, 0, none⟩, 1, 1⟩, db := ⟨some ⟨wN.heap.size, 0, none⟩, 1, 1⟩ } : NV).cells (0, 0) _ HX41.out Tryd.underlying36 rfl (by kernel_rfl) ?_))
            refine (HDn2.out _ HB41.out).mono ?_
            rintro e w42 ⟨rfl, hb⟩
            have HBW42 := Lib.hid (HBW41.out.trans (hb.mono HBW41.out.size))
            clear hb
            go_wp2_with fail
            refine (HA.out _ HBW42.out).mono ?_
            rintro e w43 ⟨rfl, hb⟩
            have HBW43 := Lib.hid (HBW42.out.trans (hb.mono HBW42.out.size))
            clear hb
            go_wp2_with fail
            go_ret
            exact ⟨rfl, HBW43.out⟩
          · have hzx' : ((z : Int) != (x : Int)) = true := by rw [bne_iff_ne]; omega
            clear hzx hz g1
            go_wp2_with fail
            refine (HA.out _ HB31.out).mono ?_
            rintro e w43 ⟨rfl, hb⟩
            have HBW43 := Lib.hid (HB31.out.trans (hb.mono HB31.out.size))
            clear hb
            go_wp2_with fail
            go_ret
            exact ⟨rfl, HBW43.out⟩
        · have k3' : (tg == K) = false := by rw [beq_eq_false_iff_ne]; exact k3
          clear htg k3
          go_wp2_with fail
          refine (HTAG.out _).mono ?_
          rintro e w30 ⟨rfl, rfl⟩
          go_wp2_with (first | (refine wpList_load_row rfl 36 (.tmp 14) rfl wA.heap.size rfl 36 ({ n0 with mv := ⟨some ⟨v3.heap.size, 0, none⟩, 1, 1⟩, db := ⟨some ⟨wN.heap.size, 0, none⟩, 1, 1⟩ } : NV).cells (0, 0) _ HXT.out Tryd.underlying36 rfl (by kernel_rfl) ?_) | (refine wpList_load_rowG (by rfl) 36 (.tmp 14) rfl wA.heap.size rfl 36 ({ n0 with mv := ⟨some ⟨v3.heap.size, 0, none⟩, 1, 1⟩, db := ⟨some ⟨wN.heap.size, 0, none⟩, 1, 1⟩ } : NV).cells (0, 0) _ HXT.out Tryd.underlying36 rfl (by kernel_rfl) ?_))
          refine (HDone.out _ (Below.refl _ _)).mono ?_
          rintro e w41 ⟨rfl, hb⟩
          have HX41 := Lib.hid (HXT.out.later hb HXT.out.lt)
          have HB41 := Lib.hid hb
          have HBW41 := Lib.hid (HBT.out.trans (hb.mono HBT.out.size))
          clear hb
          go_wp2_with (first | (refine wpList_load_row rfl 36 (.tmp 14) rfl wA.heap.size rfl 36 ({ n0 with mv := ⟨some ⟨v3.heap.size, 0, none⟩, 1, 1⟩, db := ⟨some ⟨wN.heap.size, 0, none⟩, 1, 1⟩ } : NV).cells (0, 0) _ HX41.out Tryd.underlying36 rfl (by kernel_rfl) ?_) | (refine wpList_load_rowG (by rfl) 36 (.tmp 14) rfl wA.heap.size rfl 36 ({ n0 with mv := ⟨some ⟨v3.heap.size, 0, none⟩, 1, 1⟩, db := ⟨some ⟨wN.heap.size, 0, none⟩, 1, 1⟩ } : NV).cells (0, 0) _ HX41.out Tryd.underlying36 rfl (by kernel_rfl) ?_))
          refine (HDnil.out _ HB41.out).mono ?_
          rintro e w42 ⟨rfl, hb⟩
          have HBW42 := Lib.hid (HBW41.out.trans (hb.mono HBW41.out.size))
          clear hb
          go_wp2_with fail
          refine (HA.out _ HBW42.out).mono ?_
          rintro e w43 ⟨rfl, hb⟩
          have HBW43 := Lib.hid (HBW42.out.trans (hb.mono HBW42.out.size))
          clear hb
          go_wp2_with fail
          go_ret
          exact ⟨rfl, HBW43.out⟩
end Go.Proofs.YtahmddopbmjepaaDoor
