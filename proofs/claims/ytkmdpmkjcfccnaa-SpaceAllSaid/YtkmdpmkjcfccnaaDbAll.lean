/- The contract of the reference's All (11.1). -/
import Derived.Test.YtkmdpmkjcfccnaaDbBase
import Derived.Test.YtkmdpmkjcfccnaaHeldL
namespace Go.Proofs.Ytkmdpmkjcfccnaa
open Go.RowKit Go.Shelf
attribute [local go_sem] Oper.semAt_some
set_option linter.unusedVariables false
set_option linter.unusedSimpArgs false

/-- the effect that sets a pair. -/
def setE (p : Lp) : Le := ⟨p.key, false, p.it⟩
set_option maxRecDepth 100000 in
set_option maxHeartbeats 8000000 in
theorem all_any (a : Option Addr) (cap : Nat) (ps : List Lp) (w : World) (hP : Prs w a cap ps) (hn : ps.length ≤ 1000000) :
    Calls Try.prog 28 #[.slice a ps.length cap] w fun r W => ∃ u, r = .returned u ∧ RowE w u (ps.map setE) W := by
  obtain ⟨iE, hiE, hiE0, hiE1, hiE2⟩ := info_parts infoE
  have HP := Lib.hid hP
  have hnI : (ps.length : Int) ≤ 1000000 := by omega
  clear hP
  go_enter Try.func28, Try.ntmps28
  go_wp2
  go_loopw [3, 4] (fun u i wr => ∃ n : Nat, n ≤ ps.length ∧ i = .int .i64 n ∧ Hid (RowE w u ((ps.take n).map setE) wr)) (fun _ i _ => ps.length - (intOf i).toNat)
  case atStart => exact ⟨0, Nat.zero_le _, rfl, Lib.hid (RowE.none (Below.refl _ _))⟩
  case round =>
    obtain ⟨n, hn', rfl, HR⟩ := hrel
    have hol : ((ps.take n).map setE).length ≤ 1000000 := by
      have h2 := List.length_take_le n ps
      rw [List.length_map]
      omega
    have hzr := HR.out.2.1.size
    by_cases hlt : n < ps.length
    · obtain ⟨b, off, rfl, hb, hc⟩ := HP.out.get (by omega)
      have hq0 := (hc n hlt).later hb HR.out.2.1
      have hok := HP.out.at hlt
      have HX := Lib.hid (show (ps.take (n + 1)).map setE = (ps.take n).map setE ++ [setE (ps.getD n Lp.zero)] by rw [take_succ_getD (d := Lp.zero) hlt, List.map_append]; rfl)
      clear hc
      obtain ⟨⟨key, k, s, aF, fs, cF, aL, ws, cL, x⟩, hq⟩ : ∃ q, ps.getD n Lp.zero = q := ⟨_, rfl⟩
      obtain ⟨out, hout⟩ : ∃ out, (ps.take n).map setE = out := ⟨_, rfl⟩
      rw [hq] at hq0 HX hok
      rw [hout] at HX HR hol
      clear hq hout
      obtain ⟨q0, q1, q2, q3, q4, q5⟩ := hq0
      have HOK := Lib.hid hok
      clear hok
      have k0 : (0 : Int) ≤ (n : Int) := by omega
      have k1 : (n : Int) < (ps.length : Int) := by omega
      go_wp2
      have HS0 : Below w.heap.size wr wr.drew := (Below.refl w.heap.size wr).drew
      refine wp_region_L (S := fun W => Below w.heap.size wr W) (f := 15) (by kernel_rfl) ?_
      refine wpAnyL_take (i := 0) (some 11) (v := u3) rfl rfl (by kernel_rfl) (by kernel_rfl) (by kernel_rfl) (by kernel_rfl) (fun _ _ _ h => h) (by rfl) (fun W hS => ?_) HS0 ?_
      · go_simp
      try simp only [Act.put, List.setIfInBounds_toArray, List.set_cons_zero, List.set_cons_succ]
      refine wpAnyL_take (i := 1) (some 12) (v := .slice (some ⟨b, off, none⟩) ps.length cap) rfl rfl (by kernel_rfl) (by kernel_rfl) (by kernel_rfl) (by kernel_rfl) (fun _ _ _ h => h) (by rfl) (fun W hS => ?_) HS0 ?_
      · go_simp
      try simp only [Act.put, List.setIfInBounds_toArray, List.set_cons_zero, List.set_cons_succ]
      refine wpAnyL_take (i := 2) (some 13) (v := .int .i64 (n : Int)) rfl rfl (by kernel_rfl) (by kernel_rfl) (by kernel_rfl) (by kernel_rfl) (fun _ _ _ h => h) (by rfl) (fun W hS => ?_) HS0 ?_
      · go_simp
      try simp only [Act.put, List.setIfInBounds_toArray, List.set_cons_zero, List.set_cons_succ]
      refine wpAnyL_take (i := 3) (some 14) (v := .pointer (some ⟨b, off + n * 6, none⟩)) rfl rfl (by kernel_rfl) (by kernel_rfl) (by kernel_rfl) (by kernel_rfl) (fun _ _ _ h => h) (by rfl) (fun W hS => ?_) HS0 ?_
      · go_simp
      try simp only [Act.put, List.setIfInBounds_toArray, List.set_cons_zero, List.set_cons_succ]
      refine wpAnyL_take (i := 4) (some 15) (v := .pointer (some ⟨b, off + n * 6, none⟩)) rfl rfl (by kernel_rfl) (by kernel_rfl) (by kernel_rfl) (by kernel_rfl) (fun _ _ _ h => h) (by rfl) (fun W hS => ?_) HS0 ?_
      · go_simp
      try simp only [Act.put, List.setIfInBounds_toArray, List.set_cons_zero, List.set_cons_succ]
      refine wpAnyL_take (i := 5) (some 16) (v := .string ⟨key.toArray⟩) rfl rfl (by kernel_rfl) (by kernel_rfl) (by kernel_rfl) (by kernel_rfl) (fun _ _ _ h => h) (by rfl) (fun W hS => ?_) HS0 ?_
      · have m0 := (hS.cell (p := ⟨b, off + n * 6, none⟩) hb).trans q0
        go_simp
      try simp only [Act.put, List.setIfInBounds_toArray, List.set_cons_zero, List.set_cons_succ]
      refine wpAnyL_take (i := 6) (some 17) (v := .slice (some ⟨b, off, none⟩) ps.length cap) rfl rfl (by kernel_rfl) (by kernel_rfl) (by kernel_rfl) (by kernel_rfl) (fun _ _ _ h => h) (by rfl) (fun W hS => ?_) HS0 ?_
      · go_simp
      try simp only [Act.put, List.setIfInBounds_toArray, List.set_cons_zero, List.set_cons_succ]
      refine wpAnyL_take (i := 7) (some 18) (v := .int .i64 (n : Int)) rfl rfl (by kernel_rfl) (by kernel_rfl) (by kernel_rfl) (by kernel_rfl) (fun _ _ _ h => h) (by rfl) (fun W hS => ?_) HS0 ?_
      · go_simp
      try simp only [Act.put, List.setIfInBounds_toArray, List.set_cons_zero, List.set_cons_succ]
      refine wpAnyL_take (i := 8) (some 19) (v := .pointer (some ⟨b, off + n * 6, none⟩)) rfl rfl (by kernel_rfl) (by kernel_rfl) (by kernel_rfl) (by kernel_rfl) (fun _ _ _ h => h) (by rfl) (fun W hS => ?_) HS0 ?_
      · go_simp
      try simp only [Act.put, List.setIfInBounds_toArray, List.set_cons_zero, List.set_cons_succ]
      refine wpAnyL_take (i := 9) (some 20) (v := .pointer (some ⟨b, off + n * 6 + 1, none⟩)) rfl rfl (by kernel_rfl) (by kernel_rfl) (by kernel_rfl) (by kernel_rfl) (fun _ _ _ h => h) (by rfl) (fun W hS => ?_) HS0 ?_
      · go_simp
      try simp only [Act.put, List.setIfInBounds_toArray, List.set_cons_zero, List.set_cons_succ]
      refine wpAnyL_take (i := 10) (some 21) (v := .agg #[.int .i64 k, .string ⟨s.toArray⟩, .slice aF fs.length cF, .slice aL ws.length cL, .int .i64 x]) rfl rfl (by kernel_rfl) (by kernel_rfl) (by kernel_rfl) (by kernel_rfl) (fun _ _ _ h => h) (by rfl) (fun W hS => ?_) HS0 ?_
      · have m0 := (hS.cell (p := ⟨b, off + n * 6 + 1, none⟩) hb).trans q1
        have m1 := (hS.cell (p := ⟨b, off + n * 6 + 1 + 1, none⟩) hb).trans q2
        have m2 := (hS.cell (p := ⟨b, off + n * 6 + 1 + 2, none⟩) hb).trans q3
        have m3 := (hS.cell (p := ⟨b, off + n * 6 + 1 + 3, none⟩) hb).trans q4
        have m4 := (hS.cell (p := ⟨b, off + n * 6 + 1 + 4, none⟩) hb).trans q5
        go_simp
      try simp only [Act.put, List.setIfInBounds_toArray, List.set_cons_zero, List.set_cons_succ]
      refine wpAnyL_take (i := 11) (some 22) (v := .agg #[.string ⟨key.toArray⟩, .bool false, .int .i64 k, .string ⟨s.toArray⟩, .slice aF fs.length cF, .slice aL ws.length cL, .int .i64 x]) rfl rfl (by kernel_rfl) (by kernel_rfl) (by kernel_rfl) (by kernel_rfl) (fun _ _ _ h => h) (by rfl) (fun W hS => ?_) HS0 ?_
      · go_simp
      try simp only [Act.put, List.setIfInBounds_toArray, List.set_cons_zero, List.set_cons_succ]
      refine wpAnyL_one (j := 12) (by kernel_rfl) rfl (by rfl) (fun K hK => ?_)
      refine oper_wp_val (v := .slice (some ⟨wr.heap.size, 0, none⟩) 1 1) (w' := wr.drew.alloc (.cells #[.string ⟨key.toArray⟩, .bool false, .int .i64 k, .string ⟨s.toArray⟩, .slice aF fs.length cF, .slice aL ws.length cL, .int .i64 x] 54)) (by go_simp) ?_
      refine hK _ _ (fun _ => (Below.refl w.heap.size wr).drew.alloc hzr _) ?_
      clear hK K
      try simp only [Act.put, List.setIfInBounds_toArray, List.set_cons_zero, List.set_cons_succ]
      refine wpAnyL_one (j := 13) (by kernel_rfl) rfl (by rfl) (fun K hK => ?_)
      refine wp_append_own _ (.tmp 11) (.tmp 23) 23 rfl w.heap.size 54 iE _ 7 104 Try.underlying23 hiE hiE0 hiE1 hiE2 rfl (by decide) _ _ _ rfl (HR.out.drew.1.alloc _) ⟨wr.heap.size, 0, none⟩ 1 1 [.string ⟨key.toArray⟩, .bool false, .int .i64 k, .string ⟨s.toArray⟩, .slice aF fs.length cF, .slice aL ws.length cL, .int .i64 x] rfl rfl (row_news _ _ rfl _ _) (Le.cs_one ⟨key, false, k, s, aF, fs, cF, aL, ws, cL, x⟩) (by unfold maxLen; omega) (by omega) (by simp; omega) ?_
      intro v1 w1 hown hgrow _
      have HR1 := Lib.hid (RowE.append (e := ⟨key, false, k, s, aF, fs, cF, aL, ws, cL, x⟩) HR.out.drew hown hgrow HOK.out)
      have HS2 : Below w.heap.size wr w1 := by
        have hb1 := (Below.refl w.heap.size wr).drew.alloc hzr (.cells #[.string ⟨key.toArray⟩, .bool false, .int .i64 k, .string ⟨s.toArray⟩, .slice aF fs.length cF, .slice aL ws.length cL, .int .i64 x] 54)
        exact hb1.trans ((Keeps.of_grown (S := fun k => some k ≠ u3.ownBlock) hgrow fun r e h => h e.symm).below (Nat.le_trans hzr hb1.size) fun k hk e => by have := (HR.out.1.lt k e.symm).1; omega)
      refine hK _ _ (fun _ => HS2) ?_
      clear hK K hown hgrow
      try simp only [Act.put, List.setIfInBounds_toArray, List.set_cons_zero, List.set_cons_succ]
      refine wpAnyL_one (j := 14) (by kernel_rfl) rfl (by rfl) (fun K hK => ?_)
      go_simp
      refine hK _ _ (fun _ => HS2) ?_
      clear hK K
      try simp only [Act.put, List.setIfInBounds_toArray, List.set_cons_zero, List.set_cons_succ]
      refine wpAnyL_done (by kernel_rfl) ?_ _
      go_wp2
      go_roundw
      case rel => exact ⟨n + 1, by omega, by go_num, Lib.hid (by rw [HX.out]; exact HR1.out)⟩
      case measure => simp [intOf]; omega
    · obtain rfl : n = ps.length := by omega
      rw [List.take_length] at HR
      have k1 : ¬ (ps.length : Int) < (ps.length : Int) := by omega
      go_wp2
      go_ret
      exact ⟨_, rfl, HR.out⟩
end Go.Proofs.Ytkmdpmkjcfccnaa
