/- The contract of the reference's SMinus. -/
import Derived.Test.YtekdmnecjgpokaaStRef
import Derived.Deep.QuietTactic
import Derived.BigQuiet
namespace Go.Proofs.Ytekdmnecjgpokaa
open Go.RowKit Go.Shelf
set_option linter.unusedVariables false
set_option linter.unusedSimpArgs false

theorem any_take {L : List (List St.Bs)} {x : St.Bs} {k : Nat} (h : k < L.length) : ((L.take (k + 1)).any fun l => Mk.hasB l x) = (((L.take k).any fun l => Mk.hasB l x) || Mk.hasB (L.getD k []) x) := by
  rw [take_succ_getD (d := []) h]
  simp
theorem min_take {ws : List St.Bs} {L : List (List St.Bs)} {k : Nat} (h : k < ws.length) : St.minS (ws.take (k + 1)) L = if (L.any fun l => Mk.hasB l (ws.getD k [])) then St.minS (ws.take k) L else St.minS (ws.take k) L ++ [ws.getD k []] := by
  unfold St.minS
  rw [take_succ_getD (d := []) h, List.filter_append]
  generalize ws.getD k [] = x
  cases hb : (L.any fun l => Mk.hasB l x) <;> simp [List.filter_cons, hb]
theorem below_drew' {w wr : World} (h : Below w.heap.size w wr) (n : Nat) : Below w.heap.size w (wr.drewN n) := below_drewN h n

set_option maxRecDepth 100000 in
set_option maxHeartbeats 4000000 in
theorem sminus_any (a : Option Addr) (ca : Nat) (ws : List St.Bs) (b : Option Addr) (cb : Nat) (L : List (List St.Bs)) (w : World) (hX : Wds w a ca ws) (hW : Wss w b cb L) (hn : ws.length ≤ 1000) (hL : L.length ≤ 1000) :
    Calls Try.prog 19 #[.slice a ws.length ca, .slice b L.length cb] w fun e W' => ∃ u, e = .returned u ∧ RowW w u (St.minS ws L) W' := by
  obtain ⟨i0, hi, hz0, hz1, hz2⟩ := info_parts info9
  have HW := Lib.hid hW
  have HX := Lib.hid hX
  have hnI : (ws.length : Int) ≤ 1000 := by omega
  have hLI : (L.length : Int) ≤ 1000 := by omega
  clear hW hX
  go_enter Try.func19, Try.ntmps19
  go_wp2
  go_loopw [5, 6] (fun u i wr => ∃ k : Nat, k ≤ ws.length ∧ i = .int .i64 k ∧ Hid (RowW w u (St.minS (ws.take k) L) wr)) (fun _ i _ => ws.length - (intOf i).toNat)
  case atStart => exact ⟨0, Nat.zero_le _, rfl, Lib.hid (RowW.none (Below.refl _ _))⟩
  case round =>
    obtain ⟨k, hk, rfl, HR⟩ := hrel
    have k0 : (0 : Int) ≤ (k : Int) := by omega
    by_cases hlt : k < ws.length
    · obtain ⟨wo, rfl⟩ : ∃ wo : World, wo = wr := ⟨_, rfl⟩
      obtain ⟨ab, ao, rfl, hb, hc⟩ := HX.out.get (by omega)
      have hy0 := (HR.out.2.cell (p := ⟨ab, ao + k, none⟩) hb).trans (hc k hlt)
      have hbr : ab < wo.heap.size := Nat.lt_of_lt_of_le hb HR.out.2.size
      have k1 : (k : Int) < (ws.length : Int) := by omega
      have HM := Lib.hid (min_take (L := L) hlt)
      have hml : (St.minS (ws.take k) L).length ≤ 1000 := by
        have h1 : (St.minS (ws.take k) L).length ≤ (ws.take k).length := List.length_filter_le _ _
        rw [List.length_take] at h1
        omega
      have HML := Lib.hid hml
      obtain ⟨x, hx⟩ : ∃ x, ws.getD k [] = x := ⟨_, rfl⟩
      rw [hx] at hy0 HM
      have HA := Lib.hid (fun j (hj : j < L.length) => any_take (x := x) hj)
      have HY0 := Lib.hid hy0
      clear hc hx hy0 hml
      go_wp2
      go_loopw [7, 8] (fun v j wr => ∃ (q : Nat) (bq : Bool), q ≤ L.length ∧ j = .int .i64 q ∧ v = .bool bq ∧ Hid (((L.take q).any fun l => Mk.hasB l x) = bq) ∧ Hid (Below wo.heap.size wo wr)) (fun _ j _ => L.length - (intOf j).toNat)
      case atStart => exact ⟨0, false, Nat.zero_le _, rfl, rfl, Lib.hid (by simp), Lib.hid (Below.refl _ _)⟩
      case round =>
        obtain ⟨q, bq, hq, rfl, rfl, HQ, HB⟩ := hrel
        have q0 : (0 : Int) ≤ (q : Int) := by omega
        have y0 := (HB.out.cell (p := ⟨ab, ao + k, none⟩) hbr).trans HY0.out
        by_cases hlq : q < L.length
        · obtain ⟨bb, bo, rfl, hbb, hcc⟩ := HW.out.get (by omega)
          obtain ⟨a1, c1, z1, z2, -⟩ := hcc q hlq
          have hwB : Below w.heap.size w wr := HR.out.2.trans (HB.out.mono HR.out.2.size)
          have y1 := (hwB.cell (p := ⟨bb, bo + q, none⟩) hbb).trans z1
          have q1 : (q : Int) < (L.length : Int) := by omega
          have HS := Lib.hid (fun n => shas_any a1 c1 (L.getD q []) x (wr.drewN n) (z2.later (below_drew' hwB n)))
          have HA1 := Lib.hid (HA.out q hlq)
          obtain ⟨l, hl⟩ : ∃ l, L.getD q [] = l := ⟨_, rfl⟩
          rw [hl] at y1 HS HA1
          clear hcc z1 z2 hwB hl
          cases bq with
          | true =>
            have HN : Hid (((L.take (q + 1)).any fun l => Mk.hasB l x) = true) := Lib.hid (by rw [HA1.out, HQ.out]; rfl)
            go_wp2
            go_quiet (fail)
            go_wp2
            go_roundw
            case rel => exact ⟨q + 1, true, by omega, by go_num, rfl, HN, Lib.hid (below_drewN HB.out _)⟩
            case measure => simp [intOf]; omega
          | false =>
            cases hh : Mk.hasB l x with
            | true =>
              have HN : Hid (((L.take (q + 1)).any fun l => Mk.hasB l x) = true) := Lib.hid (by rw [HA1.out, HQ.out, hh]; rfl)
              rw [hh] at HS
              clear hh
              go_wp2
              go_quiet ((go_at_call 13; exact Calls.quiet_of_same ((HS.out _).mono fun _ _ h => ⟨h.1, h.2.symm⟩)))
              go_wp2
              go_roundw
              case rel => exact ⟨q + 1, true, by omega, by go_num, rfl, HN, Lib.hid (below_drewN HB.out _)⟩
              case measure => simp [intOf]; omega
            | false =>
              have HN : Hid (((L.take (q + 1)).any fun l => Mk.hasB l x) = false) := Lib.hid (by rw [HA1.out, HQ.out, hh]; rfl)
              rw [hh] at HS
              clear hh
              go_wp2
              go_quiet ((go_at_call 13; exact Calls.quiet_of_same ((HS.out _).mono fun _ _ h => ⟨h.1, h.2.symm⟩)))
              go_wp2
              go_roundw
              case rel => exact ⟨q + 1, false, by omega, by go_num, rfl, HN, Lib.hid (below_drewN HB.out _)⟩
              case measure => simp [intOf]; omega
        · obtain rfl : q = L.length := by omega
          rw [List.take_length] at HQ
          rw [HQ.out] at HM
          have HR2 := Lib.hid (HR.out.later HB.out)
          cases bq with
          | true =>
            rw [if_pos rfl] at HM
            go_wp2
            go_roundw
            case rel => exact ⟨k + 1, by omega, by go_num, by rw [HM.out]; exact HR2⟩
            case measure => simp [intOf]; omega
          | false =>
            rw [if_neg (by decide)] at HM
            have hzr := HB.out.size
            have hzw := HR2.out.2.size
            go_wp2_with (at_builtin; refine wpList_append_own _ rfl (.tmp 35) (.tmp 40) 25 rfl w.heap.size 9 i0 (.string ⟨#[]⟩) 1 16 Try.underlying25 hi hz0 hz1 hz2 rfl (by decide) _ _ _ rfl (HR2.out.1.alloc _) ⟨wr.heap.size, 0, none⟩ 1 1 [.string ⟨x.toArray⟩] rfl rfl (one_news _ _ rfl _ _) (by simp [Value.oneCell']) (by have := HML.out; unfold maxLen; omega) (by have := HML.out; omega) (by simp; omega) ?_)
            intro v6 w6 hown6 hgrow6 _
            have HR6 := Lib.hid (HR2.out.append hown6 hgrow6)
            clear hown6 hgrow6
            go_wp2
            go_roundw
            case rel => exact ⟨k + 1, by omega, by go_num, by rw [HM.out]; exact HR6⟩
            case measure => simp [intOf]; omega
    · obtain rfl : k = ws.length := by omega
      rw [List.take_length] at HR
      go_wp2
      go_ret
      exact ⟨_, rfl, HR.out⟩
end Go.Proofs.Ytekdmnecjgpokaa
