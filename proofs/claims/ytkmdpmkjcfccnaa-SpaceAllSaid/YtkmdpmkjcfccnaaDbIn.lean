/- The contract of the reference's In (11.1). -/
import Derived.Test.YtkmdpmkjcfccnaaDbBase
import Derived.Test.YtkmdpmkjcfccnaaSlotHash
namespace Go.Proofs.Ytkmdpmkjcfccnaa
open Go.RowKit Go.Shelf
attribute [local go_sem] Oper.semAt_some
set_option linter.unusedVariables false
set_option linter.unusedSimpArgs false

theorem infoStr : (Try.prog.info? 9).map (fun i => (i.zero, i.size, i.bytes)) = some (some (.string ⟨#[]⟩), 1, 16) := by kernel_rfl
/-- the keys of a slot. -/
def inS (z : Int) (ks : List (List UInt8)) : List (List UInt8) := ks.filter fun k => decide ((slotOf k : Int) = z)
theorem inS_snoc (z : Int) (ks : List (List UInt8)) (k : List UInt8) : inS z (ks ++ [k]) = if (slotOf k : Int) = z then inS z ks ++ [k] else inS z ks := by
  unfold inS
  rw [List.filter_append]
  by_cases h : (slotOf k : Int) = z
  · rw [if_pos h, List.filter_cons_of_pos (by simpa using h)]; rfl
  · rw [if_neg h, List.filter_cons_of_neg (by simpa using h)]; simp
theorem inS_len (z : Int) (ks : List (List UInt8)) : (inS z ks).length ≤ ks.length := List.length_filter_le _ _

set_option maxRecDepth 100000 in
set_option maxHeartbeats 4000000 in
theorem in_any (a : Option Addr) (cap : Nat) (ps : List Lp) (z : Int) (w : World) (hP : Prs w a cap ps) (hn : ps.length ≤ 1000000) :
    Calls Try.prog 25 #[.slice a ps.length cap, .int .i64 z] w fun r W => ∃ u, r = .returned u ∧ RowW w u (inS z (ps.map Lp.key)) W := by
  obtain ⟨iS, hiS, hiS0, hiS1, hiS2⟩ := info_parts infoStr
  have HP := Lib.hid hP
  have hnI : (ps.length : Int) ≤ 1000000 := by omega
  clear hP
  go_enter Try.func25, Try.ntmps25
  go_wp2
  go_loopw [5, 6] (fun u i wr => ∃ n : Nat, n ≤ ps.length ∧ i = .int .i64 n ∧ Hid (RowW w u (inS z ((ps.take n).map Lp.key)) wr)) (fun _ i _ => ps.length - (intOf i).toNat)
  case atStart => exact ⟨0, Nat.zero_le _, rfl, Lib.hid (RowW.none (Below.refl _ _))⟩
  case round =>
    obtain ⟨n, hn', rfl, HR⟩ := hrel
    have hol : (inS z ((ps.take n).map Lp.key)).length ≤ 1000000 := by
      have h1 := inS_len z ((ps.take n).map Lp.key)
      have h2 := List.length_take_le n ps
      rw [List.length_map] at h1
      omega
    have hzr := HR.out.2.size
    by_cases hlt : n < ps.length
    · have hP1 := HP.out.later HR.out.2
      obtain ⟨b, off, rfl, hb, hc⟩ := hP1.get (by omega)
      obtain ⟨q0, -⟩ := hc n hlt
      have hok := (hP1.at hlt).1
      have HX : Hid (inS z ((ps.take (n + 1)).map Lp.key) = if (slotOf (ps.getD n Lp.zero).key : Int) = z then inS z ((ps.take n).map Lp.key) ++ [(ps.getD n Lp.zero).key] else inS z ((ps.take n).map Lp.key)) :=
        Lib.hid (by rw [take_succ_getD (d := Lp.zero) hlt, List.map_append, List.map_cons, List.map_nil, inS_snoc])
      clear hc hP1
      obtain ⟨key, hq⟩ : ∃ key, (ps.getD n Lp.zero).key = key := ⟨_, rfl⟩
      obtain ⟨out, hout⟩ : ∃ out, inS z ((ps.take n).map Lp.key) = out := ⟨_, rfl⟩
      rw [hq] at q0 HX hok
      rw [hout] at HX HR hol
      clear hq hout
      have hS := refSlot_walk ⟨key.toArray⟩ wr (by rw [show (⟨key.toArray⟩ : ByteArray).size = key.length by simp [ByteArray.size]]; unfold maxLen; omega)
      rw [show (⟨key.toArray⟩ : ByteArray).data.toList = key from rfl] at hS
      obtain ⟨N, hN⟩ : ∃ N : Int, (slotOf key : Int) = N := ⟨_, rfl⟩
      rw [hN] at hS HX
      clear hN hok
      have HS := Lib.hid hS
      clear hS
      have k0 : (0 : Int) ≤ (n : Int) := by omega
      have k1 : (n : Int) < (ps.length : Int) := by omega
      by_cases he : N = z
      · subst he
        have HX2 := Lib.hid (HX.out.trans (if_pos rfl))
        clear HX
        go_wp2_with fail
        refine HS.out.mono ?_
        rintro r w1 ⟨rfl, rfl⟩
        go_wp2_with (at_builtin; refine wpList_append_own _ rfl (.tmp 21) (.tmp 27) 29 rfl w.heap.size 9 iS _ 1 16 Try.underlying29 hiS hiS0 hiS1 hiS2 rfl (by decide) _ _ _ rfl (HR.out.1.alloc _) ⟨wr.heap.size, 0, none⟩ 1 1 [.string ⟨key.toArray⟩] rfl rfl (one_news _ _ rfl _ _) (by simp [Value.oneCell']) (by unfold maxLen; omega) (by omega) (by simp; omega) ?_; intro v1 w1 hown hgrow _; have HR1 := Lib.hid (HR.out.append hown hgrow); clear hown hgrow)
        go_roundw
        case rel => exact ⟨n + 1, by omega, by go_num, Lib.hid (by rw [HX2.out]; exact HR1.out)⟩
        case measure => simp [intOf]; omega
      · have HX2 := Lib.hid (HX.out.trans (if_neg he))
        have he2 : (N == z) = false := beq_eq_false_iff_ne.2 he
        clear HX
        go_wp2_with fail
        refine HS.out.mono ?_
        rintro r w1 ⟨rfl, rfl⟩
        go_wp2
        go_roundw
        case rel => exact ⟨n + 1, by omega, by go_num, Lib.hid (by rw [HX2.out]; exact HR.out)⟩
        case measure => simp [intOf]; omega
    · obtain rfl : n = ps.length := by omega
      rw [List.take_length] at HR
      have k1 : ¬ (ps.length : Int) < (ps.length : Int) := by omega
      go_wp2
      go_ret
      exact ⟨_, rfl, HR.out⟩
end Go.Proofs.Ytkmdpmkjcfccnaa
