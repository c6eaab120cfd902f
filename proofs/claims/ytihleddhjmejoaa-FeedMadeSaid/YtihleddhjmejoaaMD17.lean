/- DERIVED: THE SHELF's CONTRACTS AT THIS DUMP, IN PLAIN WORDS (tools/lay-plain.mjs out of 'TryShelfC.lean', which tools/lay-shelf.mjs wrote): THE SAME DECLARATIONS UNDER THE SAME NAMES: 'import', 'namespace', 'open', 'def', 'theorem' AND NOTHING ELSE: no command of the shelf's: FOR A HAND-IN. Each laying: the table of numbers ('.._ren') and one theorem, a field a fact of the dump's own or the kernel's comparison; each contract: ONE APPLICATION. The contract of strings.Clone. Fields in memory; strings.Clone; rows of fields that the call owns. The contract of the reference's HSet. -/
import Derived.Shelf.Strconv.Clone
import Derived.Ground.NamesProg
import Derived.Test.YtihleddhjmejoaaProg
import Derived.Test.YtihleddhjmejoaaMD04
import Derived.Test.YtihleddhjmejoaaMD03
import Derived.Test.YtihleddhjmejoaaMD15
import Derived.Deep.Cut
import Derived.Sort.Walk0
namespace Go.Proofs
open Go.Shelf
def Try.cloneL_ren : Go.Shelf.Ren := ⟨fun | 316 => 79 | n => n, fun | 9 => 9 | 3 => 3 | 4 => 4 | 37 => 48 | 0 => 0 | 127 => 134 | 5 => 5 | n => n, fun | n => n⟩
theorem Try.cloneL : Go.Proofs.LaysM.n316 Try.prog Try.cloneL_ren := {
  mixed := by kernel_rfl
  f316 := Try.func79.trans (congrArg some (by kernel_rfl))
  t0 := Try.underlying0
  a0 := Try.isAgg0
  z0 := Try.sizeOf0
  v0 := Try.zeroValue0
  t3 := Try.underlying3
  a3 := Try.isAgg3
  z3 := Try.sizeOf3
  v3 := Try.zeroValue3
  t4 := Try.underlying4
  a4 := Try.isAgg4
  z4 := Try.sizeOf4
  v4 := Try.zeroValue4
  t9 := Try.underlying9
  a9 := Try.isAgg9
  z9 := Try.sizeOf9
  v9 := Try.zeroValue9
  t37 := Try.underlying48
  a37 := Try.isAgg48
  z37 := Try.sizeOf48
  v37 := Try.zeroValue48
  t127 := Try.underlying134
  a127 := Try.isAgg134
  z127 := Try.sizeOf134
  v127 := Try.zeroValue134
  t5 := Try.underlying5
  a5 := Try.isAgg5
  z5 := Try.sizeOf5
  v5 := Try.zeroValue5
  i0 := by kernel_rfl
  i3 := by kernel_rfl
  i4 := by kernel_rfl
  i5 := by kernel_rfl
  i9 := by kernel_rfl
  i37 := by kernel_rfl
  i127 := by kernel_rfl }
end Go.Proofs
namespace Go.Proofs.Ytihleddhjmejoaa
open Go.RowKit Go.Shelf

set_option maxHeartbeats 1000000 in
theorem clone_any (l : List UInt8) (w : World) (h : l.length ≤ 281474976710656) : Calls Try.prog 69 #[.string ⟨l.toArray⟩] w fun e w' => e = .returned (.string ⟨l.toArray⟩) ∧ Below w.heap.size w w' := by
  have hs : (⟨l.toArray⟩ : ByteArray).size = l.length := by simp [ByteArray.size]
  have hc : Calls Try.prog 79 #[.string ⟨l.toArray⟩] w fun e w' => e = .returned (.string ⟨l.toArray⟩) ∧ Below w.heap.size w w' := Any.stringslite_Clone Try.cloneL ⟨l.toArray⟩ w (by omega)
  have HC := Lib.hid hc
  clear hc hs
  go_enter Try.func69, Try.ntmps69
  go_wp2_with (go_at_call 79; refine HC.out.mono ?_; rintro e w1 ⟨rfl, hb⟩; have HB := Lib.hid hb; clear hb)
  go_ret
  exact ⟨rfl, HB.out⟩

end Go.Proofs.Ytihleddhjmejoaa
namespace Go.Proofs.Ytihleddhjmejoaa
open Go.RowKit Go.Shelf
attribute [local go_sem] Oper.semAt_some
set_option linter.unusedVariables false
set_option linter.unusedSimpArgs false

/-- what a round handed back. -/
theorem hsRound_next {B : Nat} {Dt Pv O O' : Nat → Prop} {W wr A W3 : World} (hO : ∀ k, O k → W.heap.size ≤ k ∧ k < wr.heap.size) (hA : wr.heap.size ≤ A.heap.size) (hW : W.heap.size ≤ wr.heap.size) (hB : B = W.heap.size)
    (hK : Keeps Dt W A) (hk3 : Keeps (RoundS Dt Pv B O) A W3) (hg3 : Grows O O' A W3) : (∀ j, O' j → W.heap.size ≤ j ∧ j < W3.heap.size) ∧ Keeps Dt W W3 := by
  refine ⟨fun j hj => ⟨?_, (hg3 j hj).1⟩, hK.trans (hk3.mono fun j _ h => .inl h)⟩
  rcases (hg3 j hj).2 with h | h
  · exact (hO j h).1
  · omega

end Go.Proofs.Ytihleddhjmejoaa
namespace Go.Proofs.Ytihleddhjmejoaa
open Go.RowKit Go.Shelf
set_option linter.unusedVariables false
set_option linter.unusedSimpArgs false

set_option maxRecDepth 100000 in
set_option maxHeartbeats 8000000 in
theorem hset_any (aF : Option Addr) (cF : Nat) (fs : List (List UInt8 × List UInt8)) (n v : List UInt8) (w : World) (hF : Fds w aF cF fs) (hl : fs.length ≤ 1000) (hn : n.length ≤ 1000000) (hv : v.length ≤ 1000000) :
    Calls Try.prog 61 #[.slice aF fs.length cF, .string ⟨n.toArray⟩, .string ⟨v.toArray⟩] w fun e W => ∃ u, e = .returned u ∧ RowF w u (Mk.hset fs n v) W := by
  obtain ⟨iF, hiF, hiF0, hiF1, hiF2⟩ := info_parts infoF
  have HF := Lib.hid hF
  have hnI : (fs.length : Int) ≤ 1000 := by omega
  clear hF
  go_enter Try.func61, Try.ntmps61
  go_wp2
  go_loopw [7, 8, 9] (fun u b i wr => ∃ q : Nat, q ≤ fs.length ∧ i = .int .i64 q ∧ b = .bool (Mk.foldH n v (fs.take q)).2 ∧ Hid (RowF w u (Mk.foldH n v (fs.take q)).1 wr)) (fun _ _ i _ => fs.length - (intOf i).toNat)
  case atStart => exact ⟨0, Nat.zero_le _, rfl, rfl, Lib.hid (RowF.none (Below.refl _ _))⟩
  case round =>
    obtain ⟨q, hq, rfl, rfl, HQ⟩ := hrel
    have hfl := Mk.foldH_len n v (fs.take q)
    have hfl2 : (Mk.foldH n v (fs.take q)).1.length ≤ 1001 := by
      have := List.length_take_le q fs
      split at hfl <;> omega
    clear hfl
    have hzr := HQ.out.2.size
    by_cases hlt : q < fs.length
    · obtain ⟨bF, oF, rfl, hbF, hcF⟩ := HF.out.get (by omega)
      have y0 := (HQ.out.2.cell (p := ⟨bF, oF + q * 2, none⟩) hbF).trans (hcF q hlt).1
      have y1 := (HQ.out.2.cell (p := ⟨bF, oF + q * 2 + 1, none⟩) hbF).trans (hcF q hlt).2
      have hnx : Mk.foldH n v (fs.take (q + 1)) = Mk.stepH n v (Mk.foldH n v (fs.take q)) (fs.getD q ([], [])) := by rw [take_succ_getD (d := ([], [])) hlt, Mk.foldH_snoc]
      obtain ⟨s1, hs1⟩ : ∃ s1, (fs.getD q ([], [])).1 = s1 := ⟨_, rfl⟩
      obtain ⟨s2, hs2⟩ : ∃ s2, (fs.getD q ([], [])).2 = s2 := ⟨_, rfl⟩
      have hsp : fs.getD q ([], []) = (s1, s2) := by rw [← hs1, ← hs2]
      rw [hs1] at y0
      rw [hs2] at y1
      rw [hsp] at hnx
      obtain ⟨st, hst⟩ : ∃ st, Mk.foldH n v (fs.take q) = st := ⟨_, rfl⟩
      rw [hst] at hnx hfl2 HQ ⊢
      obtain ⟨out, b⟩ := st
      have HNX := Lib.hid hnx
      have hlo : out.length ≤ 1001 := hfl2
      have HQ2 : Hid (RowF w u7 out wr) := Lib.hid HQ.out
      have k0 : (0 : Int) ≤ (q : Int) := by omega
      have k1 : (q : Int) < (fs.length : Int) := by omega
      have kT : ((q : Int)).toNat = q := by omega
      clear hnx hst hs1 hs2 hsp hcF HQ hfl2
      show Code.wp _ _ _ _ _
      cases b
      · skip
        by_cases hs : s1 < n
        · have hbl : Op.bytesLess s1 n = true := by rw [bytesLess_eq, decide_eq_true hs]
          have he := Mk.lt_ne hs
          have hne : (s1 != n) = true := by simp [he]
          have hne2 : (s1 == n) = false := by simp [he]
          have HST := Lib.hid (show Mk.stepH n v (out, false) (s1, s2) = (out ++ [(s1, s2)], false) by simp [Mk.stepH, hs, he])
          clear hs
          go_wp2_with (at_builtin; refine wpList_append_own _ rfl (.tmp 40) (.tmp 45) 56 rfl w.heap.size 87 iF _ 2 32 Try.underlying56 hiF hiF0 hiF1 hiF2 rfl (by decide) _ _ _ rfl (HQ2.out.1.alloc _) ⟨wr.heap.size, 0, none⟩ 1 1 [.string ⟨s1.toArray⟩, .string ⟨s2.toArray⟩] rfl rfl (two_newsH _ _ _ _) (by simp [Value.oneCell']) (by unfold maxLen; omega) (by omega) (by simp; omega) ?_; intro v1 w1 hown hgrow _; have HR1 := Lib.hid (HQ2.out.append hown hgrow); have hzw1 := HR1.out.2.size; clear hown hgrow)
          go_roundw
          case rel => exact ⟨q + 1, by omega, by go_num, by rw [HNX.out, HST.out], Lib.hid (by rw [HNX.out, HST.out]; exact HR1.out)⟩
          case measure => simp [intOf]; omega
        · have hbl : Op.bytesLess s1 n = false := by rw [bytesLess_eq, decide_eq_false hs]
          by_cases he : s1 = n
          · have hne : (s1 != n) = false := by simp [he]
            have hne2 : (s1 == n) = true := by simp [he]
            have HST := Lib.hid (show Mk.stepH n v (out, false) (s1, s2) = (out ++ [(n, v)], true) by simp [Mk.stepH, he, List.lt_irrefl])
            clear hs he
            go_upto_region 9 with (at_builtin; refine wpList_append_own _ rfl (.tmp 27) (.tmp 31) 56 rfl w.heap.size 87 iF _ 2 32 Try.underlying56 hiF hiF0 hiF1 hiF2 rfl (by decide) _ _ _ rfl (HQ2.out.1.alloc _) ⟨wr.heap.size, 0, none⟩ 1 1 [.string ⟨n.toArray⟩, .string ⟨v.toArray⟩] rfl rfl (two_newsH _ _ _ _) (by simp [Value.oneCell']) (by unfold maxLen; omega) (by omega) (by simp; omega) ?_; intro v1 w1 hown hgrow _; have HR1 := Lib.hid (HQ2.out.append hown hgrow); have hzw1 := HR1.out.2.size; clear hown hgrow)
            replace y0 := (HR1.out.2.cell (p := ⟨bF, oF + q * 2, none⟩) hbF).trans ((HQ2.out.2.cell (p := ⟨bF, oF + q * 2, none⟩) hbF).symm.trans y0)
            go_wp2_with fail
            go_roundw
            case rel => exact ⟨q + 1, by omega, by go_num, by rw [HNX.out, HST.out], Lib.hid (by rw [HNX.out, HST.out]; exact HR1.out)⟩
            case measure => simp [intOf]; omega
          · have hne : (s1 != n) = true := by simp [he]
            have hne2 : (s1 == n) = false := by simp [he]
            have HST := Lib.hid (show Mk.stepH n v (out, false) (s1, s2) = (out ++ [(n, v)] ++ [(s1, s2)], true) by simp [Mk.stepH, he, hs])
            have hlo2 : (out ++ [(n, v)]).length ≤ 1002 := by rw [List.length_append]; simp; omega
            clear hs he
            go_upto_region 9 with (at_builtin; refine wpList_append_own _ rfl (.tmp 27) (.tmp 31) 56 rfl w.heap.size 87 iF _ 2 32 Try.underlying56 hiF hiF0 hiF1 hiF2 rfl (by decide) _ _ _ rfl (HQ2.out.1.alloc _) ⟨wr.heap.size, 0, none⟩ 1 1 [.string ⟨n.toArray⟩, .string ⟨v.toArray⟩] rfl rfl (two_newsH _ _ _ _) (by simp [Value.oneCell']) (by unfold maxLen; omega) (by omega) (by simp; omega) ?_; intro v1 w1 hown hgrow _; have HR1 := Lib.hid (HQ2.out.append hown hgrow); have hzw1 := HR1.out.2.size; clear hown hgrow)
            replace y0 := (HR1.out.2.cell (p := ⟨bF, oF + q * 2, none⟩) hbF).trans ((HQ2.out.2.cell (p := ⟨bF, oF + q * 2, none⟩) hbF).symm.trans y0)
            replace y1 := (HR1.out.2.cell (p := ⟨bF, oF + q * 2 + 1, none⟩) hbF).trans ((HQ2.out.2.cell (p := ⟨bF, oF + q * 2 + 1, none⟩) hbF).symm.trans y1)
            go_wp2_with (at_builtin; refine wpList_append_own _ rfl (.tmp 40) (.tmp 45) 56 rfl w.heap.size 87 iF _ 2 32 Try.underlying56 hiF hiF0 hiF1 hiF2 rfl (by decide) _ _ _ rfl (HR1.out.1.alloc _) ⟨w1.heap.size, 0, none⟩ 1 1 [.string ⟨s1.toArray⟩, .string ⟨s2.toArray⟩] rfl rfl (two_newsH _ _ _ _) (by simp [Value.oneCell']) (by unfold maxLen; omega) (by omega) (by simp; omega) ?_; intro v1 w2 hown hgrow _; have HR2 := Lib.hid (HR1.out.append hown hgrow); have hzw2 := HR2.out.2.size; clear hown hgrow)
            go_roundw
            case rel => exact ⟨q + 1, by omega, by go_num, by rw [HNX.out, HST.out], Lib.hid (by rw [HNX.out, HST.out]; exact HR2.out)⟩
            case measure => simp [intOf]; omega
      · skip
        by_cases he : s1 = n
        · have hne : (s1 != n) = false := by simp [he]
          have hne2 : (s1 == n) = true := by simp [he]
          have HST := Lib.hid (show Mk.stepH n v (out, true) (s1, s2) = (out, true) by simp [Mk.stepH, he])
          clear he
          go_wp2_with fail
          go_roundw
          case rel => exact ⟨q + 1, by omega, by go_num, by rw [HNX.out, HST.out], Lib.hid (by rw [HNX.out, HST.out]; exact HQ2.out)⟩
          case measure => simp [intOf]; omega
        · have hne : (s1 != n) = true := by simp [he]
          have hne2 : (s1 == n) = false := by simp [he]
          have HST := Lib.hid (show Mk.stepH n v (out, true) (s1, s2) = (out ++ [(s1, s2)], true) by simp [Mk.stepH, he])
          clear he
          go_wp2_with (at_builtin; refine wpList_append_own _ rfl (.tmp 40) (.tmp 45) 56 rfl w.heap.size 87 iF _ 2 32 Try.underlying56 hiF hiF0 hiF1 hiF2 rfl (by decide) _ _ _ rfl (HQ2.out.1.alloc _) ⟨wr.heap.size, 0, none⟩ 1 1 [.string ⟨s1.toArray⟩, .string ⟨s2.toArray⟩] rfl rfl (two_newsH _ _ _ _) (by simp [Value.oneCell']) (by unfold maxLen; omega) (by omega) (by simp; omega) ?_; intro v1 w1 hown hgrow _; have HR1 := Lib.hid (HQ2.out.append hown hgrow); have hzw1 := HR1.out.2.size; clear hown hgrow)
          go_roundw
          case rel => exact ⟨q + 1, by omega, by go_num, by rw [HNX.out, HST.out], Lib.hid (by rw [HNX.out, HST.out]; exact HR1.out)⟩
          case measure => simp [intOf]; omega
    · obtain rfl : q = fs.length := by omega
      rw [List.take_length] at HQ hfl2 ⊢
      have HS := Lib.hid (show Mk.hset fs n v = if (Mk.foldH n v fs).2 then (Mk.foldH n v fs).1 else (Mk.foldH n v fs).1 ++ [(n, v)] from rfl)
      obtain ⟨st, hst⟩ : ∃ st, Mk.foldH n v fs = st := ⟨_, rfl⟩
      rw [hst] at HS HQ hfl2 ⊢
      obtain ⟨out, b⟩ := st
      have hlo : out.length ≤ 1001 := hfl2
      have HQ2 : Hid (RowF w u7 out wr) := Lib.hid HQ.out
      clear hst HQ hfl2
      show Code.wp _ _ _ _ _
      cases b
      · skip
        go_wp2_with (at_builtin; refine wpList_append_own _ rfl (.tmp 49) (.tmp 53) 56 rfl w.heap.size 87 iF _ 2 32 Try.underlying56 hiF hiF0 hiF1 hiF2 rfl (by decide) _ _ _ rfl (HQ2.out.1.alloc _) ⟨wr.heap.size, 0, none⟩ 1 1 [.string ⟨n.toArray⟩, .string ⟨v.toArray⟩] rfl rfl (two_newsH _ _ _ _) (by simp [Value.oneCell']) (by unfold maxLen; omega) (by omega) (by simp; omega) ?_; intro v1 w1 hown hgrow _; have HR1 := Lib.hid (HQ2.out.append hown hgrow); have hzw1 := HR1.out.2.size; clear hown hgrow)
        go_ret
        exact ⟨_, rfl, by rw [HS.out]; exact HR1.out⟩
      · go_wp2_with fail
        go_ret
        exact ⟨_, rfl, by rw [HS.out]; exact HQ2.out⟩
end Go.Proofs.Ytihleddhjmejoaa
