/- The contracts of claims.Masters and of the reference's, and of the reference's comparison of two lists of ints. -/
import Derived.Test.YtchladbjhodkoaaOwMastPlain
namespace Go.Proofs.Ytchladbjhodkoaa
open Go.RowKit

theorem nodes_snoc {l : List Ow.C} {k : Nat} (hk : k < l.length) : nodesL (l.take (k + 1)) = nodesL (l.take k) ++ [(l.getD k Ow.z).n] := by
  unfold nodesL
  rw [List.take_succ_eq_append_getElem hk, List.map_append]
  simp [List.getD, hk]

set_option maxRecDepth 100000 in
set_option maxHeartbeats 4000000 in
theorem masters_any (a : Option Addr) (cap : Nat) (l : List Ow.C) (w : World) (hl : l.length ≤ 50000) (hS : Cls w a cap l) (hV : ∀ c ∈ l, 0 ≤ c.n ∧ c.n < 8) :
    Calls Try.prog 21 #[.slice a l.length cap] w fun e w' => ∃ a' cap', e = .returned (.slice a' (mastS l).length cap') ∧ Ints w' a' cap' (mastS l) ∧ Below w.heap.size w w' := by
  obtain ⟨i0, hi, hz0, hz1, hz2⟩ := info_parts Try.infoInt
  have HS := Lib.hid hS
  have hc1 := hS.1
  have hc2 := hS.2.1
  have HME := Lib.hid (mast_eq hV)
  have HNI : Hid (∀ x ∈ nodesL l, -9223372036854775808 ≤ x ∧ x ≤ 9223372036854775807) := Lib.hid fun x hx => by
    obtain ⟨c, hc, rfl⟩ := List.mem_map.1 hx
    have := hV c hc
    omega
  clear hS hV
  go_enter Try.func21, Try.ntmps21
  go_wp2
  go_loopw [3, 8] (fun v i wr => ∃ (k : Nat) (sv : Value), k ≤ l.length ∧ i = .int .i64 k ∧ sv = v ∧ Hid (NRow w wr sv (nodesL (l.take k)))) (fun _ i _ => l.length - (intOf i).toNat)
  case atStart => exact ⟨0, _, Nat.zero_le _, rfl, rfl, Lib.hid ⟨⟨rfl, .inl ⟨rfl, rfl⟩⟩, Below.refl _ _⟩⟩
  case round =>
    obtain ⟨k, sv, hk, rfl, rfl, HG⟩ := hrel
    by_cases hlt : k < l.length
    · obtain ⟨b, off, rfl, hb, c1, c2, c3, c4⟩ := (HS.out.later HG.out.2).cells hlt
      have hsn := nodes_snoc hlt
      have hkl : (nodesL (l.take k)).length ≤ 50000 := by simp [nodesL]; omega
      have k0 : (0 : Int) ≤ (k : Int) := by omega
      have k1 : (k : Int) < (l.length : Int) := by omega
      generalize l.getD k Ow.z = c at c1 c2 c3 c4 hsn
      obtain ⟨f, t, m, e⟩ := c
      simp only at c1 c2 c3 c4 hsn
      have HSN := Lib.hid hsn
      have HO := Lib.hid HG.out.1
      have HB := Lib.hid HG.out.2
      have hsz := HG.out.2.size
      have hnew := one_news (wr.alloc (.cells #[.int .i64 f, .int .i64 t, .int .i64 m, .int .i64 e] 49)) m
      rw [World.size_alloc] at hnew
      have HNW := Lib.hid hnew
      clear hsn hnew
      generalize nodesL (l.take k) = ns at *
      go_wp2_with (at_builtin; refine wpList_append_own _ rfl (.tmp 12) (.tmp 15) 35 rfl w.heap.size 3 i0 (.int .i64 0) 1 8 Try.underlying35 hi hz0 hz1 hz2 rfl (by decide) _ _ _ rfl ((HO.out.alloc _).alloc _) ⟨wr.heap.size + 1, 0, none⟩ 1 1 [.int .i64 m] rfl rfl HNW.out (by intro u hu; simp at hu; subst hu; rfl) (by unfold maxLen; omega) (by omega) (by simp; omega) ?_)
      intro v' w1 hown1 hgrow hiff
      have hG := nrow_snoc HB.out HO.out (((Below.refl _ wr).alloc hsz _).alloc (by simp; omega) _) hown1 hgrow
      have HG1 := Lib.hid hG
      clear hG hown1 hgrow hiff
      go_wp2
      go_roundw
      case rel => exact ⟨k + 1, _, by omega, by go_num, rfl, Lib.hid (by rw [HSN.out]; exact HG1.out)⟩
      case measure => simp [intOf]; omega
    · have hall : l.take k = l := List.take_of_length_le (by omega)
      rw [hall] at HG
      have HR := Lib.hid (hrowI_of HG.out HNI.out)
      have HB := Lib.hid HG.out.2
      have hnl : (nodesL l).length ≤ 1000000 := by simp [nodesL]; omega
      clear HG
      go_wp2_with fail
      refine (sortI_any HR.out hnl).mono ?_
      rintro en w1 ⟨rfl, h1⟩
      have HR1 := Lib.hid h1
      clear h1
      go_wp2_with fail
      refine (compactI_any HR1.out).mono ?_
      rintro en w2 ⟨u, rfl, h2⟩
      rw [HME.out] at h2
      obtain ⟨a2, c2, rfl, hi2, -, -, hb2⟩ := h2
      have HI2 := Lib.hid hi2
      have HB2 := Lib.hid hb2
      clear hi2 hb2
      go_wp2
      go_ret
      exact ⟨a2, c2, rfl, HI2.out, HB2.out⟩

set_option maxRecDepth 100000 in
set_option maxHeartbeats 4000000 in
theorem refMasters_any (a : Option Addr) (cap : Nat) (l : List Ow.C) (w : World) (hl : l.length ≤ 50000) (hS : Cls w a cap l) :
    Calls Try.prog 22 #[.slice a l.length cap] w fun e w' => ∃ a' cap', e = .returned (.slice a' (mastS l).length cap') ∧ Ints w' a' cap' (mastS l) ∧ Below w.heap.size w w' := by
  obtain ⟨i0, hi, hz0, hz1, hz2⟩ := info_parts Try.infoInt
  have HS := Lib.hid hS
  have hc1 := hS.1
  have hc2 := hS.2.1
  clear hS
  go_enter Try.func22, Try.ntmps22
  go_wp2
  go_loopw [3, 4] (fun v i wr => ∃ (n : Nat) (sv : Value), n ≤ 8 ∧ i = .int .i64 n ∧ sv = v ∧ Hid (NRow w wr sv (mastUp l n))) (fun _ i _ => 8 - (intOf i).toNat)
  case atStart => exact ⟨0, _, Nat.zero_le _, rfl, rfl, Lib.hid ⟨⟨rfl, .inl ⟨rfl, rfl⟩⟩, Below.refl _ _⟩⟩
  case round =>
    obtain ⟨n, sv, hn, rfl, rfl, HG⟩ := hrel
    by_cases h8 : n < 8
    · have HU := Lib.hid (mastUp_succ l n)
      have hml := mastUp_len l n
      have n0 : (n : Int) < 8 := by omega
      go_wp2
      go_loop [3, 5] (fun v i => ∃ k : Nat, k ≤ l.length ∧ v = sv ∧ i = .int .i64 k ∧ Hid (∀ j, j < k → (l.getD j Ow.z).n ≠ (n : Int))) (fun _ i => l.length - (intOf i).toNat)
      case atStart => exact ⟨0, Nat.zero_le _, rfl, rfl, Lib.hid fun j h => by omega⟩
      case round =>
        obtain ⟨k, hk, rfl, rfl, HN⟩ := hrel
        by_cases hlt : k < l.length
        · obtain ⟨b, off, rfl, hb, c1, c2, c3, c4⟩ := (HS.out.later HG.out.2).cells hlt
          have k0 : (0 : Int) ≤ (k : Int) := by omega
          have k1 : (k : Int) < (l.length : Int) := by omega
          clear c1 c2 c4
          by_cases he : (l.getD k Ow.z).n = (n : Int)
          · have HX : Hid (l.any (fun c => decide (c.n = (n : Int))) = true) := Lib.hid (by
              rw [List.any_eq_true]
              exact ⟨l.getD k Ow.z, by simp [List.getD, hlt], by simpa using he⟩)
            rw [he] at c3
            have HU2 : Hid (mastUp l (n + 1) = mastUp l n ++ [(n : Int)]) := Lib.hid (by rw [HU.out, if_pos HX.out])
            have HO := Lib.hid HG.out.1
            have HB := Lib.hid HG.out.2
            have hsz := HG.out.2.size
            have HNW := Lib.hid (one_news wr (n : Int))
            clear he HU
            generalize mastUp l n = ns at *
            go_wp2_with (at_builtin; refine wpList_append_own _ rfl (.tmp 23) (.tmp 25) 35 rfl w.heap.size 3 i0 (.int .i64 0) 1 8 Try.underlying35 hi hz0 hz1 hz2 rfl (by decide) _ _ _ rfl (HO.out.alloc _) ⟨wr.heap.size, 0, none⟩ 1 1 [.int .i64 n] rfl rfl HNW.out (by intro u hu; simp at hu; subst hu; rfl) (by unfold maxLen; omega) (by omega) (by simp; omega) ?_)
            intro v' w1 hown1 hgrow hiff
            have hG := nrow_snoc HB.out HO.out ((Below.refl _ wr).alloc hsz _) hown1 hgrow
            have HG1 := Lib.hid hG
            clear hG hown1 hgrow hiff
            go_wp2
            go_roundw
            case rel => exact ⟨n + 1, _, by omega, by go_num, rfl, Lib.hid (by rw [HU2.out]; exact HG1.out)⟩
            case measure => simp [intOf]; omega
          · have HE := Lib.hid he
            generalize (l.getD k Ow.z).n = m at c3 he
            have hmq : (m == (n : Int)) = false := by rw [beq_eq_false_iff_ne]; exact he
            clear he
            go_wp2
            go_round
            case rel =>
              refine ⟨k + 1, by omega, rfl, by go_num, Lib.hid fun j hj => ?_⟩
              rcases Nat.lt_or_ge j k with h | h
              · exact HN.out j h
              · obtain rfl : j = k := by omega
                exact HE.out
            case measure => simp [intOf]; omega
        · have HX : Hid (mastUp l (n + 1) = mastUp l n) := Lib.hid (by
            rw [HU.out, if_neg, List.append_nil]
            rw [List.any_eq_true]
            rintro ⟨c, hc, he⟩
            obtain ⟨j, hj, rfl⟩ := List.getElem_of_mem hc
            have := HN.out j (by omega)
            simp [List.getD, hj] at this he
            exact this he)
          go_wp2
          go_roundw
          case rel => exact ⟨n + 1, _, by omega, by go_num, rfl, Lib.hid (by rw [HX.out]; exact HG.out)⟩
          case measure => simp [intOf]; omega
    · obtain rfl : n = 8 := by omega
      obtain ⟨a2, c2, rfl, hi2, -, -, hb2⟩ := hrowI_of HG.out (mastUp_ints (Nat.le_refl 8))
      have HI2 := Lib.hid hi2
      have HB2 := Lib.hid hb2
      clear hi2 hb2
      go_wp2
      go_ret
      exact ⟨a2, c2, rfl, HI2.out, HB2.out⟩

set_option maxRecDepth 100000 in
set_option maxHeartbeats 4000000 in
/-- one list of ints, held twice. -/
theorem refInts_same (a a2 : Option Addr) (cap cap2 : Nat) (l : List Int) (w : World) (hl : l.length ≤ 1000000) (h : Ints w a cap l) (h2 : Ints w a2 cap2 l) :
    Calls Try.prog 20 #[.slice a l.length cap, .slice a2 l.length cap2] w fun e w' => e = .returned (.bool true) ∧ Below w.heap.size w w' := by
  have H1 := Lib.hid h
  have H2 := Lib.hid h2
  have hc1 := h.1
  have hc2 := h2.1
  have hq : ((l.length : Int) != (l.length : Int)) = false := by simp
  clear h h2
  go_enter Try.func20, Try.ntmps20
  go_wp2
  go_loopw [4, 5] (fun r i wr => ∃ k : Nat, k ≤ l.length ∧ r = .bool false ∧ i = .int .i64 k ∧ Hid (Below w.heap.size w wr)) (fun _ i _ => l.length - (intOf i).toNat)
  case atStart => exact ⟨0, Nat.zero_le _, rfl, rfl, Lib.hid (Below.refl _ _)⟩
  case round =>
    obtain ⟨k, hk, rfl, rfl, HB⟩ := hrel
    by_cases hlt : k < l.length
    · have hne : l ≠ [] := fun h => by simp [h] at hlt
      obtain ⟨b, off, rfl, hb, -, -, hc⟩ := Ints.some (H1.out.later HB.out) hne
      obtain ⟨b2, off2, rfl, hb2, -, -, hd⟩ := Ints.some (H2.out.later HB.out) hne
      have c1 := hc k hlt
      have d1 := hd k hlt
      have k0 : (0 : Int) ≤ (k : Int) := by omega
      have k1 : (k : Int) < (l.length : Int) := by omega
      generalize l.getD k 0 = x at c1 d1
      have hxx : (x != x) = false := by simp
      clear hc hd
      go_upto_region 6 with (fail)
      go_quiet (fail)
      go_wp2
      go_roundw
      case rel => exact ⟨k + 1, by omega, rfl, by go_num, Lib.hid (below_drewN HB.out _)⟩
      case measure => simp [intOf]; omega
    · go_wp2
      go_ret
      exact ⟨rfl, HB.out⟩
end Go.Proofs.Ytchladbjhodkoaa
