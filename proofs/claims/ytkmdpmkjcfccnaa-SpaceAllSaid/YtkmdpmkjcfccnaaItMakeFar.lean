/- The contract of the reference's HSet. The contracts of the reference's SHas and SAdd. What the statements' own Make makes of numbers, as plain data; that it is valid. No program in it. The contract of item.Copy. Slices of bytes that came in; what Make tells; a byte as a text. Where a row lies. -/
import Derived.Test.YtkmdpmkjcfccnaaItMakePlain
import Derived.Test.YtkmdpmkjcfccnaaItBoxes
import Derived.Maps.OwnIn
import Derived.Deep.Cut
import Derived.Laws.AppendOwnNone
import Derived.Deep.RegionHeld3
import Derived.Deep.AppendLies
import Derived.Deep.DeepCutAuto
import Derived.Test.YtkmdpmkjcfccnaaHeldL
import Derived.BigQuiet
import Derived.Test.YtkmdpmkjcfccnaaBytes
import Derived.Test.YtkmdpmkjcfccnaaDig
import Derived.IntWalk
namespace Go.Proofs.Ytkmdpmkjcfccnaa
open Go.RowKit Go.Shelf

set_option linter.unusedVariables false
set_option linter.unusedSimpArgs false

/-- fields in a row that the call owns. -/
def RowF (w : World) (v : Value) (fs : List (List UInt8 × List UInt8)) (W : World) : Prop := W.ownsRow w.heap.size 82 2 v fs.length (fcells fs) ∧ Below w.heap.size w W
theorem RowF.none {w W : World} (hb : Below w.heap.size w W) : RowF w (.slice none 0 0) [] W := ⟨World.ownsRow_nil _ _ _ _, hb⟩
theorem RowF.append {w W w1 : World} {v v' : Value} {fs : List (List UInt8 × List UInt8)} {x y : List UInt8} (h : RowF w v fs W) (h1 : w1.ownsRow w.heap.size 82 2 v' (fs.length + 1) (fcells fs ++ [.string ⟨x.toArray⟩, .string ⟨y.toArray⟩]))
    (hg : (W.alloc (.cells #[.string ⟨x.toArray⟩, .string ⟨y.toArray⟩] 82)).grownBy w1 v.ownBlock) : RowF w v' (fs ++ [(x, y)]) w1 := by
  refine ⟨by rw [fcells_snoc, List.length_append]; exact h1, ?_⟩
  have hb := h.2.alloc h.2.size (.cells #[.string ⟨x.toArray⟩, .string ⟨y.toArray⟩] 82)
  exact hb.trans ((Keeps.of_grown (S := fun k => some k ≠ v.ownBlock) hg fun r e h => h e.symm).below hb.size fun k hk e => by have := (h.1.lt k e.symm).1; omega)
theorem two_newsH (w : World) (x y : Value) (t : TypeId) : ∀ (j : Nat) (u : Value), [x, y][j]? = some u → (w.alloc (.cells #[x, y] t)).cell? ((⟨w.heap.size, 0, none⟩ : Addr).add j) = some u :=
  fun j u h => by
    have e := cell_of_row (w.alloc (.cells #[x, y] t)) w.heap.size j #[x, y] t (0, 0) (World.alloc_heap_new w _)
    have : (Addr.add ⟨w.heap.size, 0, none⟩ j) = ⟨w.heap.size, j, none⟩ := by
      unfold Addr.add
      split <;> first | omega | rfl | simp
    rw [this, e]
    simpa using h

set_option maxRecDepth 100000 in
set_option maxHeartbeats 8000000 in
theorem hset_any (aF : Option Addr) (cF : Nat) (fs : List (List UInt8 × List UInt8)) (n v : List UInt8) (w : World) (hF : Fds w aF cF fs) (hl : fs.length ≤ 1000) (hn : n.length ≤ 1000000) (hv : v.length ≤ 1000000) :
    Calls Try.prog 70 #[.slice aF fs.length cF, .string ⟨n.toArray⟩, .string ⟨v.toArray⟩] w fun e W => ∃ u, e = .returned u ∧ RowF w u (Mk.hset fs n v) W := by
  obtain ⟨iF, hiF, hiF0, hiF1, hiF2⟩ := info_parts infoF
  have HF := Lib.hid hF
  have hnI : (fs.length : Int) ≤ 1000 := by omega
  clear hF
  go_enter Try.func70, Try.ntmps70
  go_wp2
  go_loopw [7, 8, 9] (fun u b i wr => ∃ q : Nat, q ≤ fs.length ∧ i = .int .i64 q ∧ b = .bool (Mk.foldH n v (fs.take q)).2 ∧ Hid (RowF w u (Mk.foldH n v (fs.take q)).1 wr)) (fun _ _ i _ => fs.length - (intOf i).toNat)
  case atStart => exact ⟨0, Nat.zero_le _, rfl, rfl, Lib.hid (RowF.none (Below.refl _ _))⟩
  case round =>
    obtain ⟨q, hq, rfl, rfl, HQ⟩ := hrel
    have hfl := Mk.foldH_len n v (fs.take q)
    have hfl2 : (Mk.foldH n v (fs.take q)).1.length ≤ 1001 := by
      have := List.length_take_le q fs
      split at hfl <;> omega
    clear hfl
    have hzr := HQ.out.2.size
    by_cases hlt : q < fs.length
    · obtain ⟨bF, oF, rfl, hbF, hcF⟩ := HF.out.get (by omega)
      have y0 := (HQ.out.2.cell (p := ⟨bF, oF + q * 2, none⟩) hbF).trans (hcF q hlt).1
      have y1 := (HQ.out.2.cell (p := ⟨bF, oF + q * 2 + 1, none⟩) hbF).trans (hcF q hlt).2
      have hnx : Mk.foldH n v (fs.take (q + 1)) = Mk.stepH n v (Mk.foldH n v (fs.take q)) (fs.getD q ([], [])) := by rw [take_succ_getD (d := ([], [])) hlt, Mk.foldH_snoc]
      obtain ⟨s1, hs1⟩ : ∃ s1, (fs.getD q ([], [])).1 = s1 := ⟨_, rfl⟩
      obtain ⟨s2, hs2⟩ : ∃ s2, (fs.getD q ([], [])).2 = s2 := ⟨_, rfl⟩
      have hsp : fs.getD q ([], []) = (s1, s2) := by rw [← hs1, ← hs2]
      rw [hs1] at y0
      rw [hs2] at y1
      rw [hsp] at hnx
      obtain ⟨st, hst⟩ : ∃ st, Mk.foldH n v (fs.take q) = st := ⟨_, rfl⟩
      rw [hst] at hnx hfl2 HQ ⊢
      obtain ⟨out, b⟩ := st
      have HNX := Lib.hid hnx
      have hlo : out.length ≤ 1001 := hfl2
      have HQ2 : Hid (RowF w u7 out wr) := Lib.hid HQ.out
      have k0 : (0 : Int) ≤ (q : Int) := by omega
      have k1 : (q : Int) < (fs.length : Int) := by omega
      have kT : ((q : Int)).toNat = q := by omega
      clear hnx hst hs1 hs2 hsp hcF HQ hfl2
      show Code.wp _ _ _ _ _
      cases b
      · skip
        by_cases hs : s1 < n
        · have hbl : Op.bytesLess s1 n = true := by rw [bytesLess_eq, decide_eq_true hs]
          have he := Mk.lt_ne hs
          have hne : (s1 != n) = true := by simp [he]
          have hne2 : (s1 == n) = false := by simp [he]
          have HST := Lib.hid (show Mk.stepH n v (out, false) (s1, s2) = (out ++ [(s1, s2)], false) by simp [Mk.stepH, hs, he])
          clear hs
          go_wp2_with (at_builtin; refine wpList_append_own _ rfl (.tmp 40) (.tmp 45) 28 rfl w.heap.size 82 iF _ 2 32 Try.underlying28 hiF hiF0 hiF1 hiF2 rfl (by decide) _ _ _ rfl (HQ2.out.1.alloc _) ⟨wr.heap.size, 0, none⟩ 1 1 [.string ⟨s1.toArray⟩, .string ⟨s2.toArray⟩] rfl rfl (two_newsH _ _ _ _) (by simp [Value.oneCell']) (by unfold maxLen; omega) (by omega) (by simp; omega) ?_; intro v1 w1 hown hgrow _; have HR1 := Lib.hid (HQ2.out.append hown hgrow); have hzw1 := HR1.out.2.size; clear hown hgrow)
          go_roundw
          case rel => exact ⟨q + 1, by omega, by go_num, by rw [HNX.out, HST.out], Lib.hid (by rw [HNX.out, HST.out]; exact HR1.out)⟩
          case measure => simp [intOf]; omega
        · have hbl : Op.bytesLess s1 n = false := by rw [bytesLess_eq, decide_eq_false hs]
          by_cases he : s1 = n
          · have hne : (s1 != n) = false := by simp [he]
            have hne2 : (s1 == n) = true := by simp [he]
            have HST := Lib.hid (show Mk.stepH n v (out, false) (s1, s2) = (out ++ [(n, v)], true) by simp [Mk.stepH, he, List.lt_irrefl])
            clear hs he
            go_upto_region 9 with (at_builtin; refine wpList_append_own _ rfl (.tmp 27) (.tmp 31) 28 rfl w.heap.size 82 iF _ 2 32 Try.underlying28 hiF hiF0 hiF1 hiF2 rfl (by decide) _ _ _ rfl (HQ2.out.1.alloc _) ⟨wr.heap.size, 0, none⟩ 1 1 [.string ⟨n.toArray⟩, .string ⟨v.toArray⟩] rfl rfl (two_newsH _ _ _ _) (by simp [Value.oneCell']) (by unfold maxLen; omega) (by omega) (by simp; omega) ?_; intro v1 w1 hown hgrow _; have HR1 := Lib.hid (HQ2.out.append hown hgrow); have hzw1 := HR1.out.2.size; clear hown hgrow)
            replace y0 := (HR1.out.2.cell (p := ⟨bF, oF + q * 2, none⟩) hbF).trans ((HQ2.out.2.cell (p := ⟨bF, oF + q * 2, none⟩) hbF).symm.trans y0)
            go_wp2_with fail
            go_roundw
            case rel => exact ⟨q + 1, by omega, by go_num, by rw [HNX.out, HST.out], Lib.hid (by rw [HNX.out, HST.out]; exact HR1.out)⟩
            case measure => simp [intOf]; omega
          · have hne : (s1 != n) = true := by simp [he]
            have hne2 : (s1 == n) = false := by simp [he]
            have HST := Lib.hid (show Mk.stepH n v (out, false) (s1, s2) = (out ++ [(n, v)] ++ [(s1, s2)], true) by simp [Mk.stepH, he, hs])
            have hlo2 : (out ++ [(n, v)]).length ≤ 1002 := by rw [List.length_append]; simp; omega
            clear hs he
            go_upto_region 9 with (at_builtin; refine wpList_append_own _ rfl (.tmp 27) (.tmp 31) 28 rfl w.heap.size 82 iF _ 2 32 Try.underlying28 hiF hiF0 hiF1 hiF2 rfl (by decide) _ _ _ rfl (HQ2.out.1.alloc _) ⟨wr.heap.size, 0, none⟩ 1 1 [.string ⟨n.toArray⟩, .string ⟨v.toArray⟩] rfl rfl (two_newsH _ _ _ _) (by simp [Value.oneCell']) (by unfold maxLen; omega) (by omega) (by simp; omega) ?_; intro v1 w1 hown hgrow _; have HR1 := Lib.hid (HQ2.out.append hown hgrow); have hzw1 := HR1.out.2.size; clear hown hgrow)
            replace y0 := (HR1.out.2.cell (p := ⟨bF, oF + q * 2, none⟩) hbF).trans ((HQ2.out.2.cell (p := ⟨bF, oF + q * 2, none⟩) hbF).symm.trans y0)
            replace y1 := (HR1.out.2.cell (p := ⟨bF, oF + q * 2 + 1, none⟩) hbF).trans ((HQ2.out.2.cell (p := ⟨bF, oF + q * 2 + 1, none⟩) hbF).symm.trans y1)
            go_wp2_with (at_builtin; refine wpList_append_own _ rfl (.tmp 40) (.tmp 45) 28 rfl w.heap.size 82 iF _ 2 32 Try.underlying28 hiF hiF0 hiF1 hiF2 rfl (by decide) _ _ _ rfl (HR1.out.1.alloc _) ⟨w1.heap.size, 0, none⟩ 1 1 [.string ⟨s1.toArray⟩, .string ⟨s2.toArray⟩] rfl rfl (two_newsH _ _ _ _) (by simp [Value.oneCell']) (by unfold maxLen; omega) (by omega) (by simp; omega) ?_; intro v1 w2 hown hgrow _; have HR2 := Lib.hid (HR1.out.append hown hgrow); have hzw2 := HR2.out.2.size; clear hown hgrow)
            go_roundw
            case rel => exact ⟨q + 1, by omega, by go_num, by rw [HNX.out, HST.out], Lib.hid (by rw [HNX.out, HST.out]; exact HR2.out)⟩
            case measure => simp [intOf]; omega
      · skip
        by_cases he : s1 = n
        · have hne : (s1 != n) = false := by simp [he]
          have hne2 : (s1 == n) = true := by simp [he]
          have HST := Lib.hid (show Mk.stepH n v (out, true) (s1, s2) = (out, true) by simp [Mk.stepH, he])
          clear he
          go_wp2_with fail
          go_roundw
          case rel => exact ⟨q + 1, by omega, by go_num, by rw [HNX.out, HST.out], Lib.hid (by rw [HNX.out, HST.out]; exact HQ2.out)⟩
          case measure => simp [intOf]; omega
        · have hne : (s1 != n) = true := by simp [he]
          have hne2 : (s1 == n) = false := by simp [he]
          have HST := Lib.hid (show Mk.stepH n v (out, true) (s1, s2) = (out ++ [(s1, s2)], true) by simp [Mk.stepH, he])
          clear he
          go_wp2_with (at_builtin; refine wpList_append_own _ rfl (.tmp 40) (.tmp 45) 28 rfl w.heap.size 82 iF _ 2 32 Try.underlying28 hiF hiF0 hiF1 hiF2 rfl (by decide) _ _ _ rfl (HQ2.out.1.alloc _) ⟨wr.heap.size, 0, none⟩ 1 1 [.string ⟨s1.toArray⟩, .string ⟨s2.toArray⟩] rfl rfl (two_newsH _ _ _ _) (by simp [Value.oneCell']) (by unfold maxLen; omega) (by omega) (by simp; omega) ?_; intro v1 w1 hown hgrow _; have HR1 := Lib.hid (HQ2.out.append hown hgrow); have hzw1 := HR1.out.2.size; clear hown hgrow)
          go_roundw
          case rel => exact ⟨q + 1, by omega, by go_num, by rw [HNX.out, HST.out], Lib.hid (by rw [HNX.out, HST.out]; exact HR1.out)⟩
          case measure => simp [intOf]; omega
    · obtain rfl : q = fs.length := by omega
      rw [List.take_length] at HQ hfl2 ⊢
      have HS := Lib.hid (show Mk.hset fs n v = if (Mk.foldH n v fs).2 then (Mk.foldH n v fs).1 else (Mk.foldH n v fs).1 ++ [(n, v)] from rfl)
      obtain ⟨st, hst⟩ : ∃ st, Mk.foldH n v fs = st := ⟨_, rfl⟩
      rw [hst] at HS HQ hfl2 ⊢
      obtain ⟨out, b⟩ := st
      have hlo : out.length ≤ 1001 := hfl2
      have HQ2 : Hid (RowF w u7 out wr) := Lib.hid HQ.out
      clear hst HQ hfl2
      show Code.wp _ _ _ _ _
      cases b
      · skip
        go_wp2_with (at_builtin; refine wpList_append_own _ rfl (.tmp 49) (.tmp 53) 28 rfl w.heap.size 82 iF _ 2 32 Try.underlying28 hiF hiF0 hiF1 hiF2 rfl (by decide) _ _ _ rfl (HQ2.out.1.alloc _) ⟨wr.heap.size, 0, none⟩ 1 1 [.string ⟨n.toArray⟩, .string ⟨v.toArray⟩] rfl rfl (two_newsH _ _ _ _) (by simp [Value.oneCell']) (by unfold maxLen; omega) (by omega) (by simp; omega) ?_; intro v1 w1 hown hgrow _; have HR1 := Lib.hid (HQ2.out.append hown hgrow); have hzw1 := HR1.out.2.size; clear hown hgrow)
        go_ret
        exact ⟨_, rfl, by rw [HS.out]; exact HR1.out⟩
      · go_wp2_with fail
        go_ret
        exact ⟨_, rfl, by rw [HS.out]; exact HQ2.out⟩
end Go.Proofs.Ytkmdpmkjcfccnaa
namespace Go.Proofs.Ytkmdpmkjcfccnaa
open Go.RowKit Go.Shelf
set_option linter.unusedVariables false
set_option linter.unusedSimpArgs false

theorem RowW.empty {w W : World} (hb : Below w.heap.size w W) : RowW w (.slice (some ⟨W.heap.size, 0, Option.none⟩) 0 0) [] (W.alloc (.cells #[] 9)) :=
  ⟨⟨by simp [wcells], .inr ⟨W.heap.size, 0, _, rfl, hb.size, World.alloc_heap_new W _, Nat.le_refl _, by decide, rfl, by simp [wcells]⟩⟩, hb.alloc hb.size _⟩
theorem RowW.more {w W w1 : World} {v v' : Value} {ws xs : List (List UInt8)} {n : Nat} {cs : List Value} (h : RowW w v ws W) (h1 : w1.ownsRow w.heap.size 9 1 v' n cs) (hn : n = ws.length + xs.length) (hc : cs = wcells ws ++ wcells xs) (hg : W.grownBy w1 v.ownBlock) : RowW w v' (ws ++ xs) w1 := by
  refine ⟨?_, h.2.trans ((Keeps.of_grown (S := fun k => some k ≠ v.ownBlock) hg fun r e h => h e.symm).below h.2.size fun k hk e => by have := (h.1.lt k e.symm).1; omega)⟩
  subst hn hc
  rw [List.length_append]
  simpa [wcells] using h1
theorem news_of {w : World} {b off cap : Nat} {ws : List (List UInt8)} (h : Wds w (some ⟨b, off, Option.none⟩) cap ws) : ∀ j u, (wcells ws)[j]? = some u → w.cell? ((⟨b, off, Option.none⟩ : Addr).add j) = some u := by
  intro j u hu
  have hj : j < ws.length := by
    have := (List.getElem?_eq_some_iff.1 hu).1
    simpa [wcells] using this
  obtain ⟨b', off', he, _, hc⟩ := h.get (by omega)
  cases he
  have e : (⟨b, off, Option.none⟩ : Addr).add j = ⟨b, off + j, Option.none⟩ := by unfold Addr.add; split <;> simp_all
  rw [e, hc j hj, getD_eq hj]
  simpa [wcells, hj] using hu
theorem news_one {ws : List (List UInt8)} : ∀ u ∈ wcells ws, u.oneCell' = true := by
  intro u hu
  obtain ⟨s, _, rfl⟩ := List.mem_map.1 hu
  rfl
theorem wcells_len (ws : List (List UInt8)) : (wcells ws).length = ws.length := by simp [wcells]

set_option maxRecDepth 100000 in
set_option maxHeartbeats 4000000 in
theorem shas_any (a : Option Addr) (cap : Nat) (ws : List (List UInt8)) (s : List UInt8) (w : World) (hW : Wds w a cap ws) : Calls Try.prog 33 #[.slice a ws.length cap, .string ⟨s.toArray⟩] w fun e W => e = .returned (.bool (Mk.hasB ws s)) ∧ w = W := by
  have hn : ws.length ≤ 9223372036854775807 := Nat.le_trans hW.1 hW.2.1
  have hnI : (ws.length : Int) ≤ 9223372036854775807 := by omega
  have HW := Lib.hid hW
  clear hW
  go_enter Try.func33, Try.ntmps33
  go_wp2
  go_loop [4, 5] (fun r i => ∃ q : Nat, q ≤ ws.length ∧ r = .bool false ∧ i = .int .i64 q ∧ Hid (∀ j, j < q → ws.getD j [] ≠ s)) (fun _ i => ws.length - (intOf i).toNat)
  case atStart => exact ⟨0, Nat.zero_le _, rfl, rfl, Lib.hid fun j h => by omega⟩
  case round =>
    obtain ⟨q, hq, rfl, rfl, HJ⟩ := hrel
    by_cases hlt : q < ws.length
    · obtain ⟨b, o, rfl, hb, hc⟩ := HW.out.get (by omega)
      have y0 := hc q hlt
      have k0 : (0 : Int) ≤ (q : Int) := by omega
      have k1 : (q : Int) < (ws.length : Int) := by omega
      have kT : ((q : Int)).toNat = q := by omega
      obtain ⟨x, hx⟩ : ∃ x, ws.getD q [] = x := ⟨_, rfl⟩
      rw [hx] at y0
      have HX := Lib.hid hx
      clear hc hx
      by_cases he : x = s
      · have HB := Lib.hid (show Mk.hasB ws s = true from by
          unfold Mk.hasB
          rw [List.any_eq_true]
          exact ⟨ws.getD q [], by rw [getD_eq hlt]; exact List.getElem_mem hlt, by rw [HX.out]; simp [he]⟩)
        have hne : (x != s) = false := by simp [he]
        have hne2 : (x == s) = true := by simp [he]
        clear he
        go_wp2
        go_ret
        exact ⟨by rw [HB.out]; rfl, rfl⟩
      · have HJ2 := Lib.hid (show ∀ j, j < q + 1 → ws.getD j [] ≠ s from fun j hj => by
          rcases Nat.lt_or_ge j q with h' | h'
          · exact HJ.out j h'
          · obtain rfl : j = q := by omega
            rw [HX.out]; exact he)
        have hne : (x != s) = true := by simp [he]
        have hne2 : (x == s) = false := by simp [he]
        go_wp2
        go_round
        case rel => exact ⟨q + 1, by omega, rfl, by go_num, HJ2⟩
        case measure => simp [intOf]; omega
    · obtain rfl : q = ws.length := by omega
      have HB := Lib.hid (show Mk.hasB ws s = false from by
        unfold Mk.hasB
        rw [List.any_eq_false]
        intro t ht
        obtain ⟨j, hj, rfl⟩ := List.getElem_of_mem ht
        have := HJ.out j hj
        rw [getD_eq hj] at this
        simpa using this)
      go_wp2
      go_ret
      exact ⟨by rw [HB.out]; rfl, rfl⟩

set_option maxRecDepth 100000 in
set_option maxHeartbeats 4000000 in
theorem sadd_nil (s : List UInt8) (w : World) (hs : s.length ≤ 1000000) : Calls Try.prog 71 #[.slice none 0 0, .string ⟨s.toArray⟩] w fun e W => ∃ u, e = .returned u ∧ RowW w u [s] W := by
  obtain ⟨i0, hi, hz0, hz1, hz2⟩ := info_parts info9
  have HS := Lib.hid (shas_any none 0 [] s w (wds_nil w))
  have hr0 := RowW.empty (Below.refl w.heap.size w)
  have HR0 := Lib.hid hr0
  clear hr0
  go_enter Try.func71, Try.ntmps71
  go_wp2_with fail
  refine HS.out.mono ?_
  rintro e w1 ⟨rfl, rfl⟩
  rw [show Mk.hasB [] s = false from rfl]
  go_wp2_with fail
  go_loop [5] (fun i => i = .int .i64 0) (fun _ => 0)
  case atStart => rfl
  case round =>
    obtain rfl := hrel
    go_wp2_with (at_builtin; refine wpList_append_own_none rfl (.tmp 27) (.tmp 30) 29 rfl w.heap.size 9 i0 1 Try.underlying29 hi _ _ _ rfl HR0.out.1 rfl ?_; generalize hw5 : w.alloc (.cells #[] 9) = w5; revert hw5)
    intro hw5
    have hr5 : RowW w (.slice (some ⟨w.heap.size, 0, none⟩) 0 0) [] w5 := by rw [← hw5]; exact HR0.out
    have hsz5 := hr5.2.size
    clear hw5
    go_wp2_with (at_builtin; refine wpList_append_own _ rfl (.tmp 32) (.tmp 34) 29 rfl w.heap.size 9 i0 (.string ⟨#[]⟩) 1 16 Try.underlying29 hi hz0 hz1 hz2 rfl (by decide) _ _ _ rfl (hr5.1.alloc _) ⟨w5.heap.size, 0, none⟩ 1 1 [.string ⟨s.toArray⟩] rfl rfl (one_news _ _ rfl _ _) (by simp [Value.oneCell']) (by unfold maxLen; simp) (by simp) (by simp; omega) ?_)
    intro v6 w6 hown6 hgrow6 _
    have hr6 : RowW w v6 ([] ++ [s]) w6 := hr5.append hown6 hgrow6
    clear hown6 hgrow6
    have HR6 := Lib.hid hr6
    clear hr5 hr6
    go_wp2_with (at_builtin; refine wpList_append_own_none rfl (.tmp 36) (.tmp 39) 29 rfl w.heap.size 9 i0 1 Try.underlying29 hi _ _ _ rfl HR6.out.1 rfl ?_)
    go_ret
    exact ⟨_, rfl, HR6.out⟩

set_option maxRecDepth 100000 in
set_option maxHeartbeats 8000000 in
theorem sadd_any (g cap : Nat) (ws : List (List UInt8)) (s : List UInt8) (w : World) (hW : Wds w (some ⟨g, 0, none⟩) cap ws) (h0 : 0 < ws.length) (hl : ws.length ≤ 1000) (hs : s.length ≤ 1000000) :
    Calls Try.prog 71 #[.slice (some ⟨g, 0, none⟩) ws.length cap, .string ⟨s.toArray⟩] w fun e W => ∃ u, e = .returned u ∧ RowW w u (Mk.sadd ws s) W := by
  obtain ⟨i0, hi, hz0, hz1, hz2⟩ := info_parts info9
  have HS := Lib.hid (shas_any (some ⟨g, 0, none⟩) cap ws s w hW)
  have hnI : (ws.length : Int) ≤ 1000 := by omega
  have hcap : ws.length ≤ cap := hW.1
  have hcapI : (cap : Int) ≤ 9223372036854775807 := by have := hW.2.1; omega
  have hnc : (ws.length : Int) ≤ (cap : Int) := by omega
  have HW := Lib.hid hW
  have HR0 := Lib.hid (RowW.empty (Below.refl w.heap.size w))
  clear hW
  go_enter Try.func71, Try.ntmps71
  go_wp2_with fail
  refine HS.out.mono ?_
  rintro e w1 ⟨rfl, rfl⟩
  cases hb : Mk.hasB ws s with
  | true =>
    have HE := Lib.hid (show Mk.sadd ws s = ws by unfold Mk.sadd; rw [if_pos hb])
    have HN := Lib.hid (news_of (HW.out.later ((Below.refl _ w).alloc (Nat.le_refl _) (.cells #[] 9))))
    clear hb
    go_wp2_with (at_builtin; refine wpList_append_own _ rfl (.tmp 10) (.tmp 11) 29 rfl w.heap.size 9 i0 (.string ⟨#[]⟩) 1 16 Try.underlying29 hi hz0 hz1 hz2 rfl (by decide) _ _ _ rfl HR0.out.1 ⟨g, 0, none⟩ ws.length cap (wcells ws) rfl (by simp [wcells]) HN.out news_one (by unfold maxLen; simp; omega) (by simp; omega) (by simp) ?_)
    intro v6 w6 hown6 hgrow6 _
    have HR6 := Lib.hid (HR0.out.more (xs := ws) hown6 (by simp) (by simp [wcells]) hgrow6)
    clear hown6 hgrow6
    go_wp2_with fail
    go_ret
    exact ⟨_, rfl, by rw [HE.out]; exact HR6.out⟩
  | false =>
    have HE := Lib.hid (show Mk.sadd ws s = ws.take (Mk.lowS ws s) ++ [s] ++ ws.drop (Mk.lowS ws s) by unfold Mk.sadd; rw [if_neg (by rw [hb]; decide)])
    clear hb
    go_wp2_with fail
    go_loop [5] (fun i => ∃ q : Nat, q ≤ ws.length ∧ i = .int .i64 q ∧ Hid (∀ j, j < q → ws.getD j [] < s)) (fun i => ws.length - (intOf i).toNat)
    case atStart => exact ⟨0, Nat.zero_le _, rfl, Lib.hid fun j h => by omega⟩
    case round =>
      obtain ⟨q, hq, rfl, HJ⟩ := hrel
      have k0 : (0 : Int) ≤ (q : Int) := by omega
      have kT : ((q : Int)).toNat = q := by omega
      have HX : Hid (q < ws.length → w.cell? ⟨g, q, none⟩ = some (.string ⟨(ws.getD q []).toArray⟩)) := Lib.hid fun hlt => by
        obtain ⟨b', o', he, _, hc⟩ := HW.out.get h0
        cases he
        have := hc q hlt
        rwa [Nat.zero_add] at this
      by_cases hgo : q < ws.length ∧ ws.getD q [] < s
      · obtain ⟨hlt, hls⟩ := hgo
        have y0 := HX.out hlt
        have HJ2 := Lib.hid (show ∀ j, j < q + 1 → ws.getD j [] < s from fun j hj => by
          rcases Nat.lt_or_ge j q with h' | h'
          · exact HJ.out j h'
          · obtain rfl : j = q := by omega
            exact hls)
        have k1 : (q : Int) < (ws.length : Int) := by omega
        generalize ws.getD q [] = x at *
        have hbl : Op.bytesLess x s = true := by rw [bytesLess_eq, decide_eq_true hls]
        clear hls
        go_wp2_with fail
        go_round
        case rel => exact ⟨q + 1, by omega, by go_num, HJ2⟩
        case measure => simp [intOf]; omega
      · have HLow := Lib.hid (Mk.low_eq hq HJ.out (by
          rcases Nat.lt_or_ge q ws.length with h | h
          · exact .inr fun h' => hgo ⟨h, h'⟩
          · exact .inl (by omega)))
        obtain ⟨ws1, hws1⟩ : ∃ ws1, ws.take q = ws1 := ⟨_, rfl⟩
        obtain ⟨ws3, hws3⟩ : ∃ ws3, ws.drop q = ws3 := ⟨_, rfl⟩
        have hl1 : ws1.length = q := by rw [← hws1, List.length_take]; omega
        have hl3 : ws3.length = ws.length - q := by rw [← hws3, List.length_drop]
        have HE2 := Lib.hid (show Mk.sadd ws s = ws1 ++ [s] ++ ws3 from by rw [HE.out, HLow.out, hws1, hws3])
        have HT1 : Hid (∀ W, Below w.heap.size w W → Wds W (some ⟨g, 0, none⟩) cap ws1) := Lib.hid fun W h => by rw [← hws1]; exact (HW.out.take q).later h
        have HT3 : Hid (q < cap → ∀ W, Below w.heap.size w W → Wds W (some ⟨g, q, none⟩) (cap - q) ws3) := Lib.hid fun hqc W h => by
          have := (HW.out.drop q hqc hq).later h
          rw [Nat.zero_add, hws3] at this
          exact this
        have hqcI : (q : Int) ≤ (cap : Int) := by omega
        have hqnI : (q : Int) ≤ (ws.length : Int) := by omega
        have hqc : q ≤ cap := by omega
        have HL1 := Lib.hid hl1
        have HL3 := Lib.hid hl3
        have HN1 := Lib.hid (news_of (HT1.out (w.alloc (.cells #[] 9)) ((Below.refl _ _).alloc (Nat.le_refl _) _)))
        clear hws1 hws3 hl1 hl3
        have hbr : (q < ws.length ∧ Op.bytesLess (ws.getD q []) s = false) ∨ q = ws.length := by
          rcases Nat.lt_or_ge q ws.length with h | h
          · refine .inl ⟨h, ?_⟩
            rw [bytesLess_eq, decide_eq_false_iff_not]
            exact fun h' => hgo ⟨h, h'⟩
          · exact .inr (by omega)
        clear hgo
        rcases hbr with ⟨hlt, hbl⟩ | hlt
        · have y0 := HX.out hlt
          have k1 : (q : Int) < (ws.length : Int) := by omega
          generalize ws.getD q [] = x at *
          go_wp2_with (at_builtin; refine wpList_append_own _ rfl (.tmp 27) (.tmp 30) 29 rfl w.heap.size 9 i0 (.string ⟨#[]⟩) 1 16 Try.underlying29 hi hz0 hz1 hz2 rfl (by decide) _ _ _ rfl HR0.out.1 ⟨g, 0, none⟩ q cap (wcells ws1) rfl (by rw [wcells_len, HL1.out, Nat.mul_one]) HN1.out news_one (by unfold maxLen; simp; omega) (by simp; omega) (by simp) ?_)
          intro v5 w5 hown5 hgrow5 _
          have hr5 : RowW w v5 ([] ++ ws1) w5 := HR0.out.more (xs := ws1) hown5 (by rw [HL1.out]; simp) (by simp [wcells]) hgrow5
          have HR5 : Hid (RowW w v5 ws1 w5) := Lib.hid hr5
          have hsz5 := hr5.2.size
          clear hown5 hgrow5 hr5
          go_wp2_with (at_builtin; refine wpList_append_own _ rfl (.tmp 32) (.tmp 34) 29 rfl w.heap.size 9 i0 (.string ⟨#[]⟩) 1 16 Try.underlying29 hi hz0 hz1 hz2 rfl (by decide) _ _ _ rfl (HR5.out.1.alloc _) ⟨w5.heap.size, 0, none⟩ 1 1 [.string ⟨s.toArray⟩] rfl rfl (one_news _ _ rfl _ _) (by simp [Value.oneCell']) (by rw [HL1.out]; unfold maxLen; omega) (by rw [HL1.out]; omega) (by simp; omega) ?_)
          intro v6 w6 hown6 hgrow6 _
          have HR6 := Lib.hid (HR5.out.append hown6 hgrow6)
          have HL6 := Lib.hid (show (ws1 ++ [s]).length = q + 1 by rw [List.length_append, HL1.out]; rfl)
          have hsz6 := HR6.out.2.size
          clear hown6 hgrow6
          by_cases hqc2 : q < cap
          · have hqd : decide (cap = q) = false := by rw [decide_eq_false_iff_not]; omega
            have hqn : ¬ cap = q := by omega
            have HN3 := Lib.hid (news_of (HT3.out hqc2 w6 HR6.out.2))
            go_wp2_with (at_builtin; refine wpList_append_own _ rfl (.tmp 36) (.tmp 39) 29 rfl w.heap.size 9 i0 (.string ⟨#[]⟩) 1 16 Try.underlying29 hi hz0 hz1 hz2 rfl (by decide) _ _ _ rfl HR6.out.1 ⟨g, q, none⟩ (ws.length - q) (cap - q) (wcells ws3) rfl (by rw [wcells_len, HL3.out, Nat.mul_one]) HN3.out news_one (by rw [HL6.out]; unfold maxLen; omega) (by rw [HL6.out]; omega) (by omega) ?_)
            intro v7 w7 hown7 hgrow7 _
            have HR7 := Lib.hid (HR6.out.more (xs := ws3) hown7 (by rw [HL3.out, List.length_append]; rfl) rfl hgrow7)
            clear hown7 hgrow7
            go_wp2_with fail
            go_ret
            exact ⟨_, rfl, by rw [HE2.out]; exact HR7.out⟩
          · have hqe2 : cap = q := by omega
            have HNil := Lib.hid (show ws3 = [] from List.eq_nil_of_length_eq_zero (by rw [HL3.out]; omega))
            subst hqe2
            go_wp2_with (at_builtin; refine wpList_append_own _ rfl (.tmp 36) (.tmp 39) 29 rfl w.heap.size 9 i0 (.string ⟨#[]⟩) 1 16 Try.underlying29 hi hz0 hz1 hz2 rfl (by decide) _ _ _ rfl HR6.out.1 ⟨g, 0, none⟩ 0 0 [] rfl rfl (by intro j u hu; simp at hu) (by intro u hu; simp at hu) (by rw [HL6.out]; unfold maxLen; omega) (by rw [HL6.out]; omega) (by omega) ?_)
            intro v7 w7 hown7 hgrow7 _
            have HR7 := Lib.hid (HR6.out.more (xs := []) hown7 (by simp) (by simp [wcells]) hgrow7)
            clear hown7 hgrow7
            go_wp2_with fail
            go_ret
            exact ⟨_, rfl, by rw [HE2.out, HNil.out]; exact HR7.out⟩
        · have k1 : (ws.length : Int) ≤ (q : Int) := by omega
          have k2 : decide ((q : Int) < (ws.length : Int)) = false := by rw [decide_eq_false_iff_not]; omega
          have k3 : decide (q < ws.length) = false := by rw [decide_eq_false_iff_not]; omega
          have HQN := Lib.hid hlt
          clear hlt
          go_wp2_with (at_builtin; refine wpList_append_own _ rfl (.tmp 27) (.tmp 30) 29 rfl w.heap.size 9 i0 (.string ⟨#[]⟩) 1 16 Try.underlying29 hi hz0 hz1 hz2 rfl (by decide) _ _ _ rfl HR0.out.1 ⟨g, 0, none⟩ q cap (wcells ws1) rfl (by rw [wcells_len, HL1.out, Nat.mul_one]) HN1.out news_one (by unfold maxLen; simp; omega) (by simp; omega) (by simp) ?_)
          intro v5 w5 hown5 hgrow5 _
          have hr5 : RowW w v5 ([] ++ ws1) w5 := HR0.out.more (xs := ws1) hown5 (by rw [HL1.out]; simp) (by simp [wcells]) hgrow5
          have HR5 : Hid (RowW w v5 ws1 w5) := Lib.hid hr5
          have hsz5 := hr5.2.size
          clear hown5 hgrow5 hr5
          go_wp2_with (at_builtin; refine wpList_append_own _ rfl (.tmp 32) (.tmp 34) 29 rfl w.heap.size 9 i0 (.string ⟨#[]⟩) 1 16 Try.underlying29 hi hz0 hz1 hz2 rfl (by decide) _ _ _ rfl (HR5.out.1.alloc _) ⟨w5.heap.size, 0, none⟩ 1 1 [.string ⟨s.toArray⟩] rfl rfl (one_news _ _ rfl _ _) (by simp [Value.oneCell']) (by rw [HL1.out]; unfold maxLen; omega) (by rw [HL1.out]; omega) (by simp; omega) ?_)
          intro v6 w6 hown6 hgrow6 _
          have HR6 := Lib.hid (HR5.out.append hown6 hgrow6)
          have HL6 := Lib.hid (show (ws1 ++ [s]).length = q + 1 by rw [List.length_append, HL1.out]; rfl)
          have hsz6 := HR6.out.2.size
          clear hown6 hgrow6
          by_cases hqc2 : q < cap
          · have hqd : decide (cap = q) = false := by rw [decide_eq_false_iff_not]; omega
            have hqn : ¬ cap = q := by omega
            have HN3 := Lib.hid (news_of (HT3.out hqc2 w6 HR6.out.2))
            go_wp2_with (at_builtin; refine wpList_append_own _ rfl (.tmp 36) (.tmp 39) 29 rfl w.heap.size 9 i0 (.string ⟨#[]⟩) 1 16 Try.underlying29 hi hz0 hz1 hz2 rfl (by decide) _ _ _ rfl HR6.out.1 ⟨g, q, none⟩ (ws.length - q) (cap - q) (wcells ws3) rfl (by rw [wcells_len, HL3.out, Nat.mul_one]) HN3.out news_one (by rw [HL6.out]; unfold maxLen; omega) (by rw [HL6.out]; omega) (by omega) ?_)
            intro v7 w7 hown7 hgrow7 _
            have HR7 := Lib.hid (HR6.out.more (xs := ws3) hown7 (by rw [HL3.out, List.length_append]; rfl) rfl hgrow7)
            clear hown7 hgrow7
            go_wp2_with fail
            go_ret
            exact ⟨_, rfl, by rw [HE2.out]; exact HR7.out⟩
          · have hqe2 : cap = q := by omega
            have HNil := Lib.hid (show ws3 = [] from List.eq_nil_of_length_eq_zero (by rw [HL3.out]; omega))
            subst hqe2
            go_wp2_with (at_builtin; refine wpList_append_own _ rfl (.tmp 36) (.tmp 39) 29 rfl w.heap.size 9 i0 (.string ⟨#[]⟩) 1 16 Try.underlying29 hi hz0 hz1 hz2 rfl (by decide) _ _ _ rfl HR6.out.1 ⟨g, 0, none⟩ 0 0 [] rfl rfl (by intro j u hu; simp at hu) (by intro u hu; simp at hu) (by rw [HL6.out]; unfold maxLen; omega) (by rw [HL6.out]; omega) (by omega) ?_)
            intro v7 w7 hown7 hgrow7 _
            have HR7 := Lib.hid (HR6.out.more (xs := []) hown7 (by simp) (by simp [wcells]) hgrow7)
            clear hown7 hgrow7
            go_wp2_with fail
            go_ret
            exact ⟨_, rfl, by rw [HE2.out, HNil.out]; exact HR7.out⟩
end Go.Proofs.Ytkmdpmkjcfccnaa
namespace Go.Proofs.Ytkmdpmkjcfccnaa
namespace Mk
open It

/-- the text of a number. -/
def sOf (b : UInt8) : List UInt8 := UInt8.ofNat (97 + b.toNat % 5) :: Dig.dec ((b.toNat % 3 : Nat) : Int)
/-- the value of a number. -/
def vOf (b : UInt8) : List UInt8 := Dig.dec ((b.toNat : Int) - 100)
def sF (r : List UInt8) : List UInt8 := r.flatMap sOf
def fF (r : List UInt8) : List F := r.foldl (fun f b => hset f (sOf b) (vOf b)) []
def lF (r : List UInt8) : List (List UInt8) := r.map sOf
def aF (r : List UInt8) : List (List UInt8) := r.foldl (fun l b => sadd l (sOf b)) []
theorem sF_snoc (r : List UInt8) (b : UInt8) : sF (r ++ [b]) = sF r ++ sOf b := by simp [sF]
theorem fF_snoc (r : List UInt8) (b : UInt8) : fF (r ++ [b]) = hset (fF r) (sOf b) (vOf b) := by simp [fF, List.foldl_append]
theorem lF_snoc (r : List UInt8) (b : UInt8) : lF (r ++ [b]) = lF r ++ [sOf b] := by simp [lF]
theorem aF_snoc (r : List UInt8) (b : UInt8) : aF (r ++ [b]) = sadd (aF r) (sOf b) := by simp [aF, List.foldl_append]

def mkK (K e : Int) (r : List UInt8) : I :=
  if K = 1 then ⟨1, sF r, [], [], e⟩ else if K = 2 then ⟨2, [], fF r, [], e⟩ else if K = 3 then ⟨3, [], [], lF r, e⟩ else ⟨4, [], [], aF r, e⟩
def eOf (x : Int) : Int := if x % 3 = 0 then x else 0
def mk : List UInt8 → Int → I
  | [], _ => ⟨1, [], [], [], 0⟩
  | n :: r, x => if r = [] ∧ n.toNat % 4 ≠ 0 then ⟨1, Dig.dec (n.toNat : Int), [], [], eOf x⟩ else mkK (1 + ((n.toNat % 4 : Nat) : Int)) (eOf x) (r.take 8)

theorem small : (List.range 256).all (fun n => (sOf (UInt8.ofNat n)).length == 2 && decide ((vOf (UInt8.ofNat n)).length ≤ 4) && decide ((Dig.dec (n : Int)).length ≤ 3)) = true := by decide +kernel
theorem small_at (b : UInt8) : (sOf b).length = 2 ∧ (vOf b).length ≤ 4 ∧ (Dig.dec (b.toNat : Int)).length ≤ 3 := by
  have h := List.all_eq_true.1 small b.toNat (List.mem_range.2 (UInt8.toNat_lt b))
  simp only [Bool.and_eq_true, beq_iff_eq, decide_eq_true_eq, UInt8.ofNat_toNat] at h
  exact ⟨h.1.1, h.1.2, h.2⟩

theorem sF_len (r : List UInt8) : (sF r).length = 2 * r.length := by
  induction r with
  | nil => rfl
  | cons b r ih =>
    have := (small_at b).1
    simp only [sF, List.flatMap_cons, List.length_append, List.length_cons] at ih ⊢
    omega

/-- what is known of the fields, of the members. -/
def OkF (m : Nat) (f : List F) : Prop := upF f ∧ f.length ≤ m ∧ (0 < m → 0 < f.length) ∧ ∀ p ∈ f, p.1.length = 2 ∧ p.2.length ≤ 4
def OkA (m : Nat) (l : List (List UInt8)) : Prop := upS l ∧ l.length ≤ m ∧ (0 < m → 0 < l.length) ∧ ∀ p ∈ l, p.length = 2

theorem hset_ne (l : List F) (n v : List UInt8) (h : upF l) : 0 < (hset l n v).length := by
  obtain ⟨i1, i2, i3, i4⟩ := round_H n v l h
  unfold hset
  cases hb : (foldH n v l).2 with
  | false => simp
  | true =>
    rw [if_pos rfl]
    suffices H : ∀ m, m ≤ l.length → (foldH n v (l.take m)).2 = true → 0 < (foldH n v (l.take m)).1.length by
      have := H l.length (Nat.le_refl _)
      simpa [hb] using this
    intro m
    induction m with
    | zero => intro _ h; simp [foldH] at h
    | succ m ih =>
      intro hm hh
      have e : l.take (m + 1) = l.take m ++ [l[m]] := (List.take_append_getElem (by omega)).symm
      rw [e, foldH_snoc] at hh ⊢
      have ih' := ih (by omega)
      generalize foldH n v (l.take m) = q at *
      obtain ⟨out, b⟩ := q
      simp only at ih'
      cases b <;> by_cases h1 : (l[m]).1 < n <;> by_cases h2 : (l[m]).1 = n <;> simp [stepH, h1, h2] at hh ih' ⊢
      all_goals exact ih'
theorem sadd_ne (l : List (List UInt8)) (s : List UInt8) : 0 < (sadd l s).length := by
  unfold sadd
  split
  · rename_i h
    unfold hasB at h
    rw [List.any_eq_true] at h
    obtain ⟨t, ht, _⟩ := h
    exact List.length_pos_of_mem ht
  · simp; omega

theorem fF_ok (r : List UInt8) : OkF r.length (fF r) := by
  suffices H : ∀ m, m ≤ r.length → OkF m (fF (r.take m)) by simpa using H r.length (Nat.le_refl _)
  intro m
  induction m with
  | zero => intro _; exact ⟨List.Pairwise.nil, Nat.le_refl _, fun h => by omega, fun p hp => by simp [fF] at hp⟩
  | succ m ih =>
    intro hm
    have e : r.take (m + 1) = r.take m ++ [r[m]] := (List.take_append_getElem (by omega)).symm
    obtain ⟨h1, h2, h3, h4⟩ := ih (by omega)
    rw [e, fF_snoc]
    obtain ⟨u1, u2⟩ := hset_up (sOf r[m]) (vOf r[m]) _ h1
    have hl := hset_len (sOf r[m]) (vOf r[m]) (fF (r.take m))
    refine ⟨u1, by omega, fun _ => hset_ne _ _ _ h1, fun p hp => ?_⟩
    rcases u2 p hp with rfl | hp
    · exact ⟨(small_at _).1, (small_at _).2.1⟩
    · exact h4 p hp
theorem aF_ok (r : List UInt8) : OkA r.length (aF r) := by
  suffices H : ∀ m, m ≤ r.length → OkA m (aF (r.take m)) by simpa using H r.length (Nat.le_refl _)
  intro m
  induction m with
  | zero => intro _; exact ⟨List.Pairwise.nil, Nat.le_refl _, fun h => by omega, fun p hp => by simp [aF] at hp⟩
  | succ m ih =>
    intro hm
    have e : r.take (m + 1) = r.take m ++ [r[m]] := (List.take_append_getElem (by omega)).symm
    obtain ⟨h1, h2, h3, h4⟩ := ih (by omega)
    rw [e, aF_snoc]
    obtain ⟨u1, u2, u3⟩ := sadd_up (aF (r.take m)) (sOf r[m]) h1
    refine ⟨u1, by omega, fun _ => sadd_ne _ _, fun p hp => ?_⟩
    rcases u2 p hp with rfl | hp
    · exact (small_at _).1
    · exact h4 p hp

/-- another end of life. -/
def withE (i : I) (y : Int) : I := ⟨i.kind, i.s, i.f, i.l, y⟩
theorem withE_mkK (K e y : Int) (t : List UInt8) : withE (mkK K e t) y = mkK K y t := by
  unfold mkK withE
  split
  · rfl
  · split
    · rfl
    · split <;> rfl
theorem may_of (i : I) (h0 : 0 ≤ i.exp) (h1 : i.exp ≤ 9007199254740992) (hf : fitsB i = true) (ht : ∀ s ∈ textsS i, s.length ≤ 300) : mayB i = true := by
  unfold mayB
  rw [decide_eq_true h0, decide_eq_true h1, hf, List.all_eq_true.2 fun s hs => decide_eq_true (ht s hs)]
  rfl
/-- what is made may be. -/
theorem mk_may (ns : List UInt8) (x y : Int) (hy0 : 0 ≤ y) (hy : y ≤ 9007199254740992) : mayB (withE (mk ns x) y) = true := by
  cases ns with
  | nil => exact may_of _ hy0 hy rfl (fun s hs => by simp [withE, mk, textsS, fieldsS] at hs; subst hs; simp)
  | cons n r =>
    by_cases hr : r = [] ∧ n.toNat % 4 ≠ 0
    · rw [show mk (n :: r) x = ⟨1, Dig.dec (n.toNat : Int), [], [], eOf x⟩ from if_pos hr]
      have := (small_at n).2.2
      exact may_of _ hy0 hy rfl (fun s hs => by simp [withE, textsS, fieldsS] at hs; subst hs; omega)
    · rw [show mk (n :: r) x = mkK (1 + ((n.toNat % 4 : Nat) : Int)) (eOf x) (r.take 8) from if_neg hr, withE_mkK]
      have hlen : (r.take 8).length ≤ 8 := by rw [List.length_take]; omega
      have hpos : n.toNat % 4 ≠ 0 → 0 < (r.take 8).length := fun h => by
        cases r with
        | nil => exact absurd ⟨rfl, h⟩ hr
        | cons a r => simp
      generalize r.take 8 = t at *
      have hk : n.toNat % 4 = 0 ∨ n.toNat % 4 = 1 ∨ n.toNat % 4 = 2 ∨ n.toNat % 4 = 3 := by omega
      rcases hk with hk | hk | hk | hk
      · rw [hk]
        have := sF_len t
        exact may_of ⟨1, sF t, [], [], y⟩ hy0 hy rfl (fun s hs => by simp [textsS, fieldsS] at hs; subst hs; omega)
      · have hp := hpos (by omega)
        rw [hk]
        obtain ⟨u1, u2, u3, u4⟩ := fF_ok t
        have u3 := u3 hp
        have r1 : risB (names ⟨2, [], fF t, [], y⟩) = true := ris_of_upF u1
        refine may_of ⟨2, [], fF t, [], y⟩ hy0 hy ?_ (fun s hs => ?_)
        · simp only [fitsB, r1, countB]
          rw [decide_eq_true (show 1 ≤ (fF t).length by omega), decide_eq_true (show (fF t).length ≤ 40 by omega)]
          rfl
        · simp only [textsS, fieldsS, List.mem_cons, List.mem_append, List.mem_flatMap, List.not_mem_nil, or_false] at hs
          rcases hs with rfl | ⟨p, hp', rfl | rfl⟩
          · simp
          · have := u4 p hp'; omega
          · have := u4 p hp'; omega
      · have hp := hpos (by omega)
        rw [hk]
        have hl : (lF t).length = t.length := by simp [lF]
        refine may_of ⟨3, [], [], lF t, y⟩ hy0 hy ?_ (fun s hs => ?_)
        · simp only [fitsB, countB]
          rw [decide_eq_true (show 1 ≤ (lF t).length by omega), decide_eq_true (show (lF t).length ≤ 40 by omega)]
          rfl
        · simp only [textsS, fieldsS, List.flatMap_nil, List.nil_append, List.mem_cons, lF, List.mem_map] at hs
          rcases hs with rfl | ⟨b, _, rfl⟩
          · simp
          · have := (small_at b).1; omega
      · have hp := hpos (by omega)
        rw [hk]
        obtain ⟨u1, u2, u3, u4⟩ := aF_ok t
        have u3 := u3 hp
        have r1 : risB (aF t) = true := ris_of_up u1
        refine may_of ⟨4, [], [], aF t, y⟩ hy0 hy ?_ (fun s hs => ?_)
        · simp only [fitsB, r1, countB]
          rw [decide_eq_true (show 1 ≤ (aF t).length by omega), decide_eq_true (show (aF t).length ≤ 40 by omega)]
          rfl
        · simp only [textsS, fieldsS, List.flatMap_nil, List.nil_append, List.mem_cons] at hs
          rcases hs with rfl | hs
          · simp
          · have := u4 s hs; omega
end Mk
end Go.Proofs.Ytkmdpmkjcfccnaa
namespace Go.Proofs.Ytkmdpmkjcfccnaa
set_option linter.unusedVariables false
open Go.RowKit Go.Shelf

/-- a copy: the same parts, in rows of its own. -/
def CopyOut (k x : Int) (s : List UInt8) (fs : List (List UInt8 × List UInt8)) (ws : List (List UInt8)) (w : World) (e : Ending) (W : World) : Prop :=
  ∃ aF cF aL cL, e = .returned (itv k s aF fs.length cF aL ws.length cL x) ∧ W.ownsRow w.heap.size 82 2 (.slice aF fs.length cF) fs.length (fcells fs) ∧ W.ownsRow w.heap.size 9 1 (.slice aL ws.length cL) ws.length (wcells ws) ∧
    (∀ g, (Value.slice aF fs.length cF).ownBlock = some g → (Value.slice aL ws.length cL).ownBlock ≠ some g) ∧ Below w.heap.size w W

/-- the round's blocks, as they stand in the loops. -/
def CpInv (W2 : World) (Bc : Nat) (k x : Int) (s : List UInt8) (aF : Option Addr) (nF cF : Nat) (aL : Option Addr) (nL cL : Nat) (fs : List (List UInt8 × List UInt8)) (ws : List (List UInt8)) (W : World) : Prop :=
  ItBox W Bc k s aF nF cF aL nL cL x ∧ W.ownsRow W2.heap.size 82 2 (.slice aF nF cF) fs.length (fcells fs) ∧ W.ownsRow W2.heap.size 9 1 (.slice aL nL cL) ws.length (wcells ws) ∧
    (∀ g, (Value.slice aF nF cF).ownBlock = some g → (Value.slice aL nL cL).ownBlock ≠ some g) ∧ Keeps (fun j => j ≠ Bc) W2 W

theorem copy_out {w W0 wc wr w4 : World} {Bc : Nat} {k x : Int} {s : List UInt8} {fs : List (List UInt8 × List UInt8)} {ws : List (List UInt8)} {a a2 : Option Addr} {c c2 : Nat} (hz : w.heap.size + 2 ≤ W0.heap.size) (hBc : W0.heap.size ≤ Bc) (hb0 : Below w.heap.size w W0) (hbw : Below W0.heap.size W0 wc) (hBc2 : Bc < wc.heap.size)
    (ho : wr.ownsRow wc.heap.size 82 2 (.slice a fs.length c) fs.length (fcells fs)) (hk : Keeps (fun j => j ≠ Bc) wc wr) (ho2 : w4.ownsRow wr.heap.size 9 1 (.slice a2 ws.length c2) ws.length (wcells ws)) (hk2 : Keeps (fun j => j ≠ Bc) wr w4) (Wend : World) (hW : Wend = stIt w4 (w.heap.size + 1) k s a fs.length c a2 ws.length c2 x) :
    CopyOut k x s fs ws w (.returned (itv k s a fs.length c a2 ws.length c2 x)) Wend := by
  have hzw := hbw.size
  have hk3 : Keeps (fun j => j ≠ w.heap.size + 1) w4 Wend := by rw [hW]; exact (Keeps.refl _ w4).stIt (.inr fun h => h rfl) k s a fs.length c a2 ws.length c2 x
  refine ⟨a, c, a2, c2, rfl, ?_, ?_, ?_, ?_⟩
  · refine owns_base (owns_kept (S := fun j => j ≠ w.heap.size + 1) (owns_kept (S := fun j => j ≠ Bc) ho hk2 ?_) hk3 ?_) (by omega)
    · intro g hg; have := (ho.lt g hg).1; omega
    · intro g hg; have := (ho.lt g hg).1; omega
  · have := hk.size
    refine owns_base (owns_kept (S := fun j => j ≠ w.heap.size + 1) ho2 hk3 ?_) (by omega)
    intro g hg; have := (ho2.lt g hg).1; omega
  · intro g h1 h2
    have := (ho.lt g h1).2
    have := (ho2.lt g h2).1
    omega
  · have b1 := hk.below (n := w.heap.size) (by omega) fun j hj => by omega
    have := hk.size
    have b2 := hk2.below (n := w.heap.size) (by omega) fun j hj => by omega
    have := hk2.size
    have b3 := hk3.below (n := w.heap.size) (by omega) fun j hj => by omega
    exact (((hb0.trans (hbw.mono (by omega))).trans b1).trans b2).trans b3

end Go.Proofs.Ytkmdpmkjcfccnaa
namespace Go.Proofs.Ytkmdpmkjcfccnaa
open Go.RowKit Go.Shelf
set_option linter.unusedVariables false

theorem conv_at (W : World) (b : Nat) (x : Int) (h : W.cell? ⟨b, 0, none⟩ = some (.int .u8 x)) :
    (convert 47 9 (.slice (some ⟨b, 0, none⟩) 1 1)).run Try.prog W = .ok (.string ⟨#[UInt8.ofNat x.toNat]⟩) W := by
  rw [run_convert_bytes_string _ _ _ _ _ _ _ Try.underlying47 Try.underlying5 Try.underlying9]
  have hl := run_loadCells_list (P := Try.prog) W ⟨b, 0, none⟩ ([x].map (Value.int .u8)) (fun j v hj => by
    match j, hj with
    | 0, hj =>
      simp at hj
      subst hj
      simpa [Addr.add] using h)
  simp only [List.length_map, List.length_cons, List.length_nil] at hl
  rw [run_bytesToString _ _ _ _ [x] hl]
  rfl

/-- what Make tells. -/
def MadeOut (i : It.I) (w : World) (e : Ending) (W : World) : Prop :=
  ∃ aF cF aL cL, e = .returned (itv i.kind i.s aF i.f.length cF aL i.l.length cL i.exp) ∧ Fds W aF cF i.f ∧ Wds W aL cL i.l ∧ Below w.heap.size w W

/-- the item's lists are new. -/
def Fresh (w : World) (aF : Option Addr) (cF : Nat) (aL : Option Addr) (cL : Nat) : Prop :=
  (∀ g o, aF = some ⟨g, o, none⟩ → w.heap.size ≤ g) ∧ (∀ g o, aL = some ⟨g, o, none⟩ → w.heap.size ≤ g) ∧ (aF = none → cF = 0) ∧ (aL = none → cL = 0)
theorem fresh_none (w : World) : Fresh w none 0 none 0 := ⟨fun _ _ e => (by cases e), fun _ _ e => (by cases e), fun _ => rfl, fun _ => rfl⟩
/-- .. and that its lists are new. -/
def MadeAt (i : It.I) (w : World) (e : Ending) (W : World) : Prop :=
  ∃ aF cF aL cL, e = .returned (itv i.kind i.s aF i.f.length cF aL i.l.length cL i.exp) ∧ Fds W aF cF i.f ∧ Wds W aL cL i.l ∧ Below w.heap.size w W ∧ Fresh w aF cF aL cL
theorem MadeAt.out {i : It.I} {w W : World} {e : Ending} (h : MadeAt i w e W) : MadeOut i w e W := by
  obtain ⟨aF, cF, aL, cL, he, hF, hL, hb, -⟩ := h
  exact ⟨aF, cF, aL, cL, he, hF, hL, hb⟩

/-- the boxes behind Make's head. -/
def MkAt (w : World) (K e : Int) (wx : World) : Prop :=
  ItBox wx (w.heap.size + 1) K [] none 0 0 none 0 0 e ∧ ItBox wx w.heap.size 0 [] none 0 0 none 0 0 0 ∧ Below w.heap.size w wx ∧ wx.heap.size = w.heap.size + 2
theorem mkAt_new (w : World) (K : Int) : MkAt w K 0 ((w.alloc (.cells #[.int .i64 0, .string ⟨#[]⟩, .slice none 0 0, .slice none 0 0, .int .i64 0] 31)).alloc (.cells #[.int .i64 K, .string ⟨#[]⟩, .slice none 0 0, .slice none 0 0, .int .i64 0] 31)) := by
  refine ⟨?_, ?_, ((Below.refl _ w).alloc (Nat.le_refl _) _).alloc (by simp) _, by simp⟩
  · have := ItBox.new (w.alloc (itc 0 [] none 0 0 none 0 0 0)) K [] none 0 0 none 0 0 0
    rwa [World.size_alloc] at this
  · exact ItBox.later (ItBox.new w 0 [] none 0 0 none 0 0 0) ((Below.refl _ _).alloc (Nat.le_refl _) _)
theorem mkAt_exp (w : World) (K x : Int) : MkAt w K x ((w.alloc (.cells #[.int .i64 0, .string ⟨#[]⟩, .slice none 0 0, .slice none 0 0, .int .i64 0] 31)).alloc (.cells #[.int .i64 K, .string ⟨#[]⟩, .slice none 0 0, .slice none 0 0, .int .i64 x] 31)) := by
  refine ⟨?_, ?_, ((Below.refl _ w).alloc (Nat.le_refl _) _).alloc (by simp) _, by simp⟩
  · have := ItBox.new (w.alloc (itc 0 [] none 0 0 none 0 0 0)) K [] none 0 0 none 0 0 x
    rwa [World.size_alloc] at this
  · exact ItBox.later (ItBox.new w 0 [] none 0 0 none 0 0 0) ((Below.refl _ _).alloc (Nat.le_refl _) _)

/-- what the rounds have made: a text. -/
def MkS (wx : World) (B : Nat) (e : Int) (s : List UInt8) (wr : World) : Prop := ItBox wr B 1 s none 0 0 none 0 0 e ∧ Keeps (fun j => j ≠ B) wx wr
/-- fields. -/
def MkF (wx : World) (B : Nat) (e : Int) (f : List (List UInt8 × List UInt8)) (wr : World) : Prop :=
  ∃ a c, ItBox wr B 2 [] a f.length c none 0 0 e ∧ wr.ownsRow wx.heap.size 82 2 (.slice a f.length c) f.length (fcells f) ∧ Keeps (fun j => j ≠ B) wx wr
/-- texts. -/
def MkL (wx : World) (B : Nat) (K e : Int) (l : List (List UInt8)) (wr : World) : Prop :=
  ∃ a c, ItBox wr B K [] none 0 0 a l.length c e ∧ wr.ownsRow wx.heap.size 9 1 (.slice a l.length c) l.length (wcells l) ∧ Keeps (fun j => j ≠ B) wx wr ∧ (l = [] → a = none ∧ c = 0)
theorem mk_below {w wx wr : World} {B : Nat} (hB : B = w.heap.size + 1) (hb : Below w.heap.size w wx) (hz : wx.heap.size = w.heap.size + 2) (h : Keeps (fun j => j ≠ B) wx wr) : Below w.heap.size w wr :=
  hb.trans (h.below (by omega) fun j hj => by omega)
theorem MkS.below {w wx wr : World} {e : Int} {s : List UInt8} (hb : Below w.heap.size w wx) (hz : wx.heap.size = w.heap.size + 2) (h : MkS wx (w.heap.size + 1) e s wr) : Below w.heap.size w wr := mk_below rfl hb hz h.2
theorem MkF.below {w wx wr : World} {e : Int} {f : List (List UInt8 × List UInt8)} (hb : Below w.heap.size w wx) (hz : wx.heap.size = w.heap.size + 2) (h : MkF wx (w.heap.size + 1) e f wr) : Below w.heap.size w wr := by
  obtain ⟨_, _, _, _, h⟩ := h
  exact mk_below rfl hb hz h
theorem MkL.below {w wx wr : World} {K e : Int} {l : List (List UInt8)} (hb : Below w.heap.size w wx) (hz : wx.heap.size = w.heap.size + 2) (h : MkL wx (w.heap.size + 1) K e l wr) : Below w.heap.size w wr := by
  obtain ⟨_, _, _, _, h, _⟩ := h
  exact mk_below rfl hb hz h
theorem cell_next9 {A B : World} {p : Addr} {v : Value} (h : A.cell? p = some v) (hb : Below A.heap.size A B) : B.cell? p = some v := (hb.cell (World.block_lt_of_cell? A p h)).trans h
theorem new9 (w : World) (x : Value) : (w.alloc (.cells #[x] 5)).drew.cell? ⟨w.heap.size, 0, none⟩ = some x := by
  rw [World.cell?_drew]
  exact World.news_of_block (World.alloc_heap_new w _) 0 _ rfl
theorem new9b (w : World) (x : Value) : (w.alloc (.cells #[x] 5)).cell? ⟨w.heap.size, 0, none⟩ = some x := World.news_of_block (World.alloc_heap_new w _) 0 _ rfl

theorem mk_keeps {wx wr wc : World} {B : Nat} (hk : Keeps (fun j => j ≠ B) wx wr) (hb : Keeps (fun j => j < wx.heap.size) wr wc) (p : Addr) (hp : p.block = B) (v : Value) : Keeps (fun j => j ≠ B) wx (wc.setCell p v) := by
  have a1 : Keeps (fun j => j ≠ B ∧ j < wx.heap.size) wx wr := hk.mono fun _ _ h => h.1
  have a2 : Keeps (fun j => j ≠ B ∧ j < wx.heap.size) wr wc := hb.mono fun _ _ h => h.2
  exact ((a1.trans a2).setCell (p := p) (.inr fun h => h.1 hp) v).mono fun j hj h => ⟨h, hj⟩
theorem mkS_step {wx wr wc : World} {B : Nat} {e : Int} {s : List UInt8} (h : MkS wx B e s wr) (hb : Below wr.heap.size wr wc) (s' : List UInt8) : MkS wx B e s' (wc.setCell ⟨B, 1, none⟩ (.string ⟨s'.toArray⟩)) :=
  ⟨ItBox.set1 (ItBox.later h.1 hb) s', mk_keeps h.2 (Keeps.of_below hb fun j hj _ => hj) _ rfl _⟩
theorem mkF_step {wx wr wc : World} {B : Nat} {e : Int} {f f' : List (List UInt8 × List UInt8)} {a : Option Addr} {n c : Nat} {a' : Option Addr} {c' base : Nat} (hk : Keeps (fun j => j ≠ B) wx wr) (hb : Keeps (fun j => j < wx.heap.size) wr wc) (hx : ItBox wc B 2 [] a n c none 0 0 e) (hB : B < wx.heap.size) (hbase : wx.heap.size ≤ base)
    (ho : wc.ownsRow base 82 2 (.slice a' f'.length c') f'.length (fcells f')) : MkF wx B e f' (wc.setCell ⟨B, 2, none⟩ (.slice a' f'.length c')) :=
  ⟨a', c', hx.set2 _ _ _, owns_base (owns_kept (S := fun j => j ≠ B) ho ((Keeps.refl _ wc).setCell (.inr fun h => h rfl) _) fun g hg => by have := (ho.lt g hg).1; omega) hbase, mk_keeps hk hb _ rfl _⟩
theorem mkL_step {wx wr wc : World} {B : Nat} {K e : Int} {l' : List (List UInt8)} {a : Option Addr} {n c : Nat} {a' : Option Addr} {c' base : Nat} (hk : Keeps (fun j => j ≠ B) wx wr) (hb : Keeps (fun j => j < wx.heap.size) wr wc) (hx : ItBox wc B K [] none 0 0 a n c e) (hB : B < wx.heap.size) (hbase : wx.heap.size ≤ base)
    (ho : wc.ownsRow base 9 1 (.slice a' l'.length c') l'.length (wcells l')) (hne : l' ≠ []) : MkL wx B K e l' (wc.setCell ⟨B, 3, none⟩ (.slice a' l'.length c')) :=
  ⟨a', c', hx.set3 _ _ _, owns_base (owns_kept (S := fun j => j ≠ B) ho ((Keeps.refl _ wc).setCell (.inr fun h => h rfl) _) fun g hg => by have := (ho.lt g hg).1; omega) hbase, mk_keeps hk hb _ rfl _, fun h => absurd h hne⟩

/-- the text of a number. -/
theorem sOf_str (b : UInt8) (y : Int) (h : (b.toNat : Int) = y) : (⟨#[UInt8.ofNat (97 + y % 5).toNat]⟩ : ByteArray) ++ ⟨(Dig.dec (y % 3)).toArray⟩ = ⟨(Mk.sOf b).toArray⟩ := by
  rw [str_cons]
  unfold Mk.sOf
  have h1 : (97 + y % 5).toNat = 97 + b.toNat % 5 := by omega
  have h2 : y % 3 = ((b.toNat % 3 : Nat) : Int) := by omega
  rw [h1, h2]
theorem dec3_len (y : Int) : (Dig.dec (y % 3)).length ≤ 1 := by
  have h : y % 3 = 0 ∨ y % 3 = 1 ∨ y % 3 = 2 := by omega
  rcases h with h | h | h <;> rw [h] <;> decide +kernel
theorem vOf_str (b : UInt8) (y : Int) (h : (b.toNat : Int) = y) : Dig.dec (y - 100) = Mk.vOf b := by rw [← h]; rfl
theorem take_snoc8 {r : List UInt8} {q : Nat} (h : q < r.length) : r.take (q + 1) = r.take q ++ [r.getD q 0] := by
  rw [take_succ_getD (d := (0 : UInt8)) h]
theorem take_all8 {r : List UInt8} {q gk : Nat} (hq : q ≤ r.length) (h8 : q + gk = 8) (hgo : ¬ (q < r.length ∧ q < 8)) : r.take q = r.take 8 := by
  rcases Nat.lt_or_ge q 8 with h | h
  · have : q = r.length := by omega
    rw [this, List.take_length, List.take_of_length_le (by omega)]
  · rw [show q = 8 by omega]
theorem owns_far {w : World} {base : Nat} {e : TypeId} {sz m c n B : Nat} {xs : List Value} {a : Option Addr} (h : w.ownsRow base e sz (.slice a m c) n xs) (hB : B < base) : ∀ g o, a = some ⟨g, o, none⟩ → B < g := by
  obtain ⟨_, hc⟩ := h
  rcases hc with ⟨h1, _⟩ | ⟨g', cap, cur, h1, hb, _⟩
  · injection h1 with h1
    intro g o e
    rw [h1] at e
    cases e
  · injection h1 with h1
    intro g o e
    rw [h1] at e
    injection e with e
    injection e with e
    omega
theorem owns_none {w : World} {base : Nat} {e : TypeId} {sz m c n : Nat} {xs : List Value} {a : Option Addr} (h : w.ownsRow base e sz (.slice a m c) n xs) : a = none → c = 0 := by
  obtain ⟨_, hc⟩ := h
  rcases hc with ⟨h1, _⟩ | ⟨g', cap, cur, h1, _⟩
  · injection h1 with h1 h2 h3
    exact fun _ => h3
  · injection h1 with h1
    intro e
    rw [e] at h1
    cases h1
theorem cell2_next {A B : World} {p p2 : Addr} {v v2 : Value} (h : A.cell? p = some v ∧ A.cell? p2 = some v2) (hb : Below A.heap.size A B) : B.cell? p = some v ∧ B.cell? p2 = some v2 := ⟨cell_next9 h.1 hb, cell_next9 h.2 hb⟩
theorem stIt_far {w : World} {B g : Nat} (h : g ≠ B) (k : Int) (s : List UInt8) (aF : Option Addr) (nF cF : Nat) (aL : Option Addr) (nL cL : Nat) (x : Int) : (stIt w B k s aF nF cF aL nL cL x).heap[g]? = w.heap[g]? := by
  unfold stIt
  rw [Below.heap_setCell _ _ _ _ h, Below.heap_setCell _ _ _ _ h, Below.heap_setCell _ _ _ _ h, Below.heap_setCell _ _ _ _ h, Below.heap_setCell _ _ _ _ h]
end Go.Proofs.Ytkmdpmkjcfccnaa
