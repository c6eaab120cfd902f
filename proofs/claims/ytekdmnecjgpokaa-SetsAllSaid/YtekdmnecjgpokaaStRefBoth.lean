/- The contract of the reference's SBoth. -/
import Derived.Test.YtekdmnecjgpokaaStRefMin
namespace Go.Proofs.Ytekdmnecjgpokaa
open Go.RowKit Go.Shelf
set_option linter.unusedVariables false
set_option linter.unusedSimpArgs false

/-- whether the sets from the second one up to there have it. -/
def allK (L : List (List St.Bs)) (x : St.Bs) (q : Nat) : Bool := ((L.take q).drop 1).all fun l => Mk.hasB l x
theorem allK_one (L : List (List St.Bs)) (x : St.Bs) : allK L x 1 = true := by
  cases L <;> simp [allK]
theorem allK_next {L : List (List St.Bs)} {x : St.Bs} {q : Nat} (h : q < L.length) (h1 : 1 ≤ q) : allK L x (q + 1) = (allK L x q && Mk.hasB (L.getD q []) x) := by
  unfold allK
  rw [take_succ_getD (d := []) h, List.drop_append_of_le_length (by rw [List.length_take]; omega)]
  simp
theorem both_at {L : List (List St.Bs)} (h : 0 < L.length) : St.bothS L = (L.getD 0 []).filter fun x => allK L x L.length := by
  cases L with
  | nil => simp at h
  | cons l L => simp [St.bothS, allK]
theorem filt_take {ws : List St.Bs} {p : St.Bs → Bool} {k : Nat} (h : k < ws.length) : (ws.take (k + 1)).filter p = if p (ws.getD k []) then (ws.take k).filter p ++ [ws.getD k []] else (ws.take k).filter p := by
  rw [take_succ_getD (d := []) h, List.filter_append]
  generalize ws.getD k [] = x
  cases hb : p x <;> simp [List.filter_cons, hb]

set_option maxRecDepth 100000 in
set_option maxHeartbeats 4000000 in
theorem sboth_any (a : Option Addr) (cap : Nat) (L : List (List St.Bs)) (w : World) (hW : Wss w a cap L) (hL : L.length ≤ 1000) (hn : (L.getD 0 []).length ≤ 1000) :
    Calls Try.prog 15 #[.slice a L.length cap] w fun e W' => ∃ u, e = .returned u ∧ RowW w u (St.bothS L) W' := by
  obtain ⟨i0, hi, hz0, hz1, hz2⟩ := info_parts info9
  rcases Nat.eq_zero_or_pos L.length with h0 | h0
  · obtain rfl : L = [] := List.eq_nil_of_length_eq_zero h0
    clear hW h0 hL hn
    simp only [List.length_nil]
    go_enter Try.func15, Try.ntmps15
    go_wp2
    go_loop [3, 4] (fun u i => u = .slice none 0 0 ∧ i = .int .i64 0) (fun _ _ => 0)
    case atStart => exact ⟨rfl, rfl⟩
    case round =>
      obtain ⟨rfl, rfl⟩ := hrel
      go_wp2
      go_ret
      exact ⟨_, rfl, RowW.none (Below.refl _ _)⟩
  · obtain ⟨b, off, rfl, hb, hc⟩ := hW.get h0
    obtain ⟨a0, c0, z0, x0, -⟩ := hc 0 h0
    rw [Nat.add_zero] at z0
    have HBo := Lib.hid (both_at h0)
    have HX := Lib.hid x0
    have HC := Lib.hid hc
    have HAll := Lib.hid (fun x => allK_one L x)
    have HNx := Lib.hid (fun x q (h : q < L.length) (h1 : 1 ≤ q) => allK_next (x := x) h h1)
    have HF := Lib.hid (fun k (h : k < (L.getD 0 []).length) => filt_take (p := fun x => allK L x L.length) h)
    have HZ := Lib.hid z0
    obtain ⟨ws, hws⟩ : ∃ ws, L.getD 0 [] = ws := ⟨_, rfl⟩
    rw [hws] at HBo HX HF HZ hn
    obtain ⟨m, hm⟩ : ∃ m, L.length = m := ⟨_, rfl⟩
    rw [hm] at h0 hL HBo HC HNx HF ⊢
    have hnI : (ws.length : Int) ≤ 1000 := by omega
    have hmI : (m : Int) ≤ 1000 := by omega
    have hm0 : (0 : Int) < (m : Int) := by omega
    have hm00 : decide ((0 : Int) < (m : Int)) = true := by rw [decide_eq_true]; omega
    clear hW hc x0 z0 hws hm
    go_enter Try.func15, Try.ntmps15
    go_wp2
    go_loopw [3, 4] (fun u i wr => ∃ k : Nat, k ≤ ws.length ∧ i = .int .i64 k ∧ Hid (RowW w u ((ws.take k).filter fun x => allK L x m) wr)) (fun _ i _ => ws.length - (intOf i).toNat)
    case atStart => exact ⟨0, Nat.zero_le _, rfl, Lib.hid (RowW.none (Below.refl _ _))⟩
    case round =>
      obtain ⟨k, hk, rfl, HR⟩ := hrel
      obtain ⟨wo, rfl⟩ : ∃ wo : World, wo = wr := ⟨_, rfl⟩
      have k0 : (0 : Int) ≤ (k : Int) := by omega
      have yz := (HR.out.2.cell (p := ⟨b, off, none⟩) hb).trans HZ.out
      have hbo : b < wo.heap.size := Nat.lt_of_lt_of_le hb HR.out.2.size
      by_cases hlt : k < ws.length
      · obtain ⟨ab, ao, rfl, hab, hcc⟩ := HX.out.get (by omega)
        have hy0 := (HR.out.2.cell (p := ⟨ab, ao + k, none⟩) hab).trans (hcc k hlt)
        have hbr : ab < wo.heap.size := Nat.lt_of_lt_of_le hab HR.out.2.size
        have k1 : (k : Int) < (ws.length : Int) := by omega
        have HM := Lib.hid (HF.out k hlt)
        have hml : ((ws.take k).filter fun x => allK L x m).length ≤ 1000 := by
          have h1 : ((ws.take k).filter fun x => allK L x m).length ≤ (ws.take k).length := List.length_filter_le _ _
          rw [List.length_take] at h1
          omega
        obtain ⟨fl, hfl⟩ : ∃ fl, ((ws.take k).filter fun x => allK L x m) = fl := ⟨_, rfl⟩
        rw [hfl] at hml HR HM
        have HML := Lib.hid hml
        obtain ⟨x, hx⟩ : ∃ x, ws.getD k [] = x := ⟨_, rfl⟩
        rw [hx] at hy0 HM
        have HYZ := Lib.hid yz
        have HY0 := Lib.hid hy0
        clear hcc hx hy0 hml hfl
        go_wp2
        clear yz
        go_loopw [5, 6] (fun v j wr => ∃ (q : Nat) (bq : Bool), 1 ≤ q ∧ q ≤ m ∧ j = .int .i64 q ∧ v = .bool bq ∧ Hid (allK L x q = bq) ∧ Hid (Below wo.heap.size wo wr)) (fun _ j _ => m - (intOf j).toNat)
        case atStart => exact ⟨1, true, Nat.le_refl _, h0, rfl, rfl, Lib.hid (HAll.out x), Lib.hid (Below.refl _ _)⟩
        case round =>
          obtain ⟨q, bq, hq1, hq, rfl, rfl, HQ, HB⟩ := hrel
          have q0 : (0 : Int) ≤ (q : Int) := by omega
          have y0 := (HB.out.cell (p := ⟨ab, ao + k, none⟩) hbr).trans HY0.out
          have yz := (HB.out.cell (p := ⟨b, off, none⟩) hbo).trans HYZ.out
          by_cases hlq : q < m
          · obtain ⟨a1, c1, z1, z2, -⟩ := HC.out q hlq
            have hwB : Below w.heap.size w wr := HR.out.2.trans (HB.out.mono HR.out.2.size)
            have y1 := (hwB.cell (p := ⟨b, off + q, none⟩) hb).trans z1
            have q1 : (q : Int) < (m : Int) := by omega
            have HS := Lib.hid (fun n => shas_any a1 c1 (L.getD q []) x (wr.drewN n) (z2.later (below_drew' hwB n)))
            have HA1 := Lib.hid (HNx.out x q hlq hq1)
            obtain ⟨l, hl⟩ : ∃ l, L.getD q [] = l := ⟨_, rfl⟩
            rw [hl] at y1 HS HA1
            clear z1 z2 hwB hl
            cases bq with
            | false =>
              have HN : Hid (allK L x (q + 1) = false) := Lib.hid (by rw [HA1.out, HQ.out]; rfl)
              go_wp2
              go_quiet (fail)
              go_wp2
              go_roundw
              case rel => exact ⟨q + 1, false, by omega, by omega, by go_num, rfl, HN, Lib.hid (below_drewN HB.out _)⟩
              case measure => simp [intOf]; omega
            | true =>
              cases hh : Mk.hasB l x with
              | true =>
                have HN : Hid (allK L x (q + 1) = true) := Lib.hid (by rw [HA1.out, HQ.out, hh]; rfl)
                rw [hh] at HS
                clear hh
                go_wp2
                go_quiet ((go_at_call 13; exact Calls.quiet_of_same ((HS.out _).mono fun _ _ h => ⟨h.1, h.2.symm⟩)))
                go_wp2
                go_roundw
                case rel => exact ⟨q + 1, true, by omega, by omega, by go_num, rfl, HN, Lib.hid (below_drewN HB.out _)⟩
                case measure => simp [intOf]; omega
              | false =>
                have HN : Hid (allK L x (q + 1) = false) := Lib.hid (by rw [HA1.out, HQ.out, hh]; rfl)
                rw [hh] at HS
                clear hh
                go_wp2
                go_quiet ((go_at_call 13; exact Calls.quiet_of_same ((HS.out _).mono fun _ _ h => ⟨h.1, h.2.symm⟩)))
                go_wp2
                go_roundw
                case rel => exact ⟨q + 1, false, by omega, by omega, by go_num, rfl, HN, Lib.hid (below_drewN HB.out _)⟩
                case measure => simp [intOf]; omega
          · obtain rfl : q = m := by omega
            rw [HQ.out] at HM
            have HR2 := Lib.hid (HR.out.later HB.out)
            cases bq with
            | false =>
              rw [if_neg (by decide)] at HM
              go_wp2
              go_roundw
              case rel => exact ⟨k + 1, by omega, by go_num, by rw [HM.out]; exact HR2⟩
              case measure => simp [intOf]; omega
            | true =>
              rw [if_pos rfl] at HM
              have hzr := HB.out.size
              have hzw := HR2.out.2.size
              go_wp2_with (at_builtin; refine wpList_append_own _ rfl (.tmp 41) (.tmp 48) 25 rfl w.heap.size 9 i0 (.string ⟨#[]⟩) 1 16 Try.underlying25 hi hz0 hz1 hz2 rfl (by decide) _ _ _ rfl (HR2.out.1.alloc _) ⟨wr.heap.size, 0, none⟩ 1 1 [.string ⟨x.toArray⟩] rfl rfl (one_news _ _ rfl _ _) (by simp [Value.oneCell']) (by have := HML.out; unfold maxLen; omega) (by have := HML.out; omega) (by simp; omega) ?_)
              intro v6 w6 hown6 hgrow6 _
              have HR6 := Lib.hid (HR2.out.append hown6 hgrow6)
              clear hown6 hgrow6
              go_wp2
              go_roundw
              case rel => exact ⟨k + 1, by omega, by go_num, by rw [HM.out]; exact HR6⟩
              case measure => simp [intOf]; omega
      · obtain rfl : k = ws.length := by omega
        rw [List.take_length] at HR
        go_wp2
        go_ret
        exact ⟨_, rfl, by rw [HBo.out]; exact HR.out⟩
end Go.Proofs.Ytekdmnecjgpokaa
