/- The contract of the statements' own letters. -/
import Derived.Test.YtjfjlbgbdjcecaaLsAwake
namespace Go.Proofs.Ytjfjlbgbdjcecaa
open Go.RowKit Go.Shelf
set_option linter.unusedVariables false
set_option linter.unusedSimpArgs false

namespace Ls
/-- a letter by a number. -/
def lt (b : UInt8) : Bs := [UInt8.ofNat (97 + b.toNat % 4)]
def lett (ns : List UInt8) : List Bs := ns.map lt
theorem lett_len (ns : List UInt8) : (lett ns).length = ns.length := by simp [lett]
theorem lt_int (b : UInt8) (y : Int) (h : (b.toNat : Int) = y) : [UInt8.ofNat (97 + y % 4).toNat] = lt b := by
  unfold lt
  rw [← h, show (97 + (b.toNat : Int) % 4).toNat = 97 + b.toNat % 4 by omega]
theorem lett_take {ns : List UInt8} {q : Nat} (h : q < ns.length) : lett (ns.take (q + 1)) = lett (ns.take q) ++ [lt (ns.getD q 0)] := by
  rw [take_snocB (d := 0) h]
  simp [lett]
theorem lett_ok (ns : List UInt8) : ∀ s ∈ lett ns, s.length ≤ 1 := by
  intro s hs
  obtain ⟨b, _, rfl⟩ := List.mem_map.1 hs
  simp [lt]
end Ls

set_option maxRecDepth 100000 in
set_option maxHeartbeats 4000000 in
theorem letters_any (p : Option Addr) (cap : Nat) (ns : List UInt8) (w : World) (hP : Bytes w p ns) (hl : ns.length ≤ 1000000) :
    Calls Try.prog 21 #[.slice p ns.length cap] w fun e W => ∃ u, e = .returned u ∧ RowW w u (Ls.lett ns) W := by
  obtain ⟨iF, hiF, hiF0, hiF1, hiF2⟩ := info_parts info9
  have HP := Lib.hid hP
  have hnI : (ns.length : Int) ≤ 1000000 := by omega
  have kc := conv1
  clear hP
  go_enter Try.func21, Try.ntmps21
  go_wp2_with fail
  go_loopw [3, 4] (fun u i wr => ∃ q : Nat, q ≤ ns.length ∧ i = .int .i64 q ∧ Hid (RowW w u (Ls.lett (ns.take q)) wr)) (fun _ i _ => ns.length - (intOf i).toNat)
  case atStart => exact ⟨0, Nat.zero_le _, rfl, Lib.hid (RowW.none (Below.refl _ _))⟩
  case round =>
    obtain ⟨q, hq, rfl, HQ⟩ := hrel
    have hzr := HQ.out.2.size
    by_cases hlt : q < ns.length
    · obtain ⟨bP, oP, rfl, hc⟩ : ∃ b off, p = some ⟨b, off, none⟩ ∧ ∀ k, k < ns.length → w.cell? ⟨b, off + k, none⟩ = some (.int .u8 ((ns.getD k 0).toNat : Int)) := by
        rcases HP.out with h | h
        · rw [h] at hlt; simp at hlt
        · exact h
      have hbP := World.block_lt_of_cell? w _ (hc q hlt)
      have y0 := (HQ.out.2.cell (p := ⟨bP, oP + q, none⟩) hbP).trans (hc q hlt)
      have HNX := Lib.hid (Ls.lett_take hlt)
      have hlo : (Ls.lett (ns.take q)).length ≤ 1000000 := by rw [Ls.lett_len, List.length_take]; omega
      obtain ⟨y, hy⟩ : ∃ y : Int, ((ns.getD q 0).toNat : Int) = y := ⟨_, rfl⟩
      have hyb : 0 ≤ y ∧ y ≤ 255 := by have := UInt8.toNat_lt (ns.getD q 0); omega
      have HSY := Lib.hid (Ls.lt_int _ y hy)
      rw [hy] at y0
      obtain ⟨hy0, hy1⟩ := hyb
      have k0 : (0 : Int) ≤ (q : Int) := by omega
      have k1 : (q : Int) < (ns.length : Int) := by omega
      have w1' : IntKind.u8.wrap (97 + y % 4) = 97 + y % 4 := by rw [IntKind.wrap_u8]; omega
      rw [← HSY.out] at HNX
      clear hy hc
      generalize Ls.lett (ns.take q) = out at HQ hlo HNX
      go_wp2_with (at_builtin; refine wpList_append_own _ rfl (.tmp 11) (.tmp 20) 22 rfl w.heap.size 9 iF _ 1 16 Try.underlying22 hiF hiF0 hiF1 hiF2 rfl (by decide) _ _ _ rfl ((HQ.out.1.alloc _).alloc _) ⟨wr.heap.size + 1, 0, Option.none⟩ 1 1 [.string ⟨[UInt8.ofNat (97 + y % 4).toNat].toArray⟩] rfl rfl (one_news _ _ (by simp) _ _) (by simp [Value.oneCell']) (by unfold maxLen; omega) (by omega) (by simp; omega) ?_; intro v1 w1 hown hgrow _; have HR2 := Lib.hid (((HQ.out.later ((Below.refl _ _).alloc (Nat.le_refl _) _))).append hown hgrow); have hzw1 := HR2.out.2.size; clear hown hgrow)
      go_roundw
      case rel => exact ⟨q + 1, by omega, by go_num, by rw [HNX.out]; exact HR2⟩
      case measure => simp [intOf]; omega
    · obtain rfl : q = ns.length := by omega
      rw [List.take_length] at HQ
      go_wp2_with fail
      go_ret
      exact ⟨_, rfl, HQ.out⟩
end Go.Proofs.Ytjfjlbgbdjcecaa
