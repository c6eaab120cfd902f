/- The contract of the iterator over a call's keys; cmd.Check, cmd.Keys. -/
import Derived.Test.YtokcbcjonbjkgaaGreatDoorCmFind
import Derived.Test.YtokcbcjonbjkgaaGreatDoorCmCollect
namespace Go.Proofs.YtokcbcjonbjkgaaGreatDoor
open Go.RowKit Go.Shelf
attribute [local go_sem] Oper.semAt_some

set_option maxRecDepth 100000 in
set_option maxHeartbeats 4000000 in
theorem keys_seq_none (B1 B2 : Nat) (s : Cm.Sp) (ws : List (List UInt8)) (w : World) (h1 : SpBox w B1 s) (hf : s.first = 0) (Dt Pv : Nat → Prop) (N : Nat) :
    SeqT true Tryz.prog 50 #[.pointer (some ⟨B1, 0, none⟩), .pointer (some ⟨B2, 0, none⟩)] encW Dt Pv (fun ys => ys = Cm.keysS s ws) (fun p => p <+: Cm.keysS s ws) N w := by
  intro l J Jx W hW hJ _ _ hY h0
  have hs : Cm.keysS s ws = [] := by simp [Cm.keysS, Cm.cnt, hf]
  have HS := Lib.hid hs
  have HB : SpBox W B1 s := (hW.block _ h1.lt).trans h1
  obtain ⟨nm, least, most, first, last, step, wb⟩ := s
  obtain ⟨c0, c1, c2, c3, c4, c5, c6⟩ := HB.at
  simp only [Nat.zero_add] at c0 c1 c2 c3 c4 c5 c6 hf
  subst hf
  clear hY h1 HB hs
  refine callsIn_of_wp Tryz.func50 rfl trivial ?_ rfl
  simp only [Tryz.ntmps50, List.size_toArray, List.length_cons, List.length_nil, Nat.reduceAdd, Nat.reduceSub, Array.replicate_succ, Array.replicate_zero, List.push_toArray, List.append_toArray, List.nil_append, List.cons_append]
  gi_wp2
  refine bodyPost_ret (results_none rfl _ _ _) rfl ?_
  exact ⟨⟨_, rfl⟩, Nat.le_refl _, fun _ => False, fun _ h => h.elim, .inl ⟨[], HS.out.symm, h0⟩⟩

set_option maxRecDepth 100000 in
set_option maxHeartbeats 4000000 in
theorem keys_seq_some (B1 B2 b off cap stn : Nat) (s : Cm.Sp) (ws : List (List UInt8)) (w : World) (h1 : SpBox w B1 s) (h2 : Boxed w B2 31 (.slice (some ⟨b, off, none⟩) ws.length cap)) (hws : ws.length ≤ 1000) (hb : b < w.heap.size)
    (hc : ∀ k, k < ws.length → w.cell? ⟨b, off + k, none⟩ = some (.string ⟨(ws.getD k []).toArray⟩)) (hf : s.first = 1) (hst : s.step = (stn : Int)) (hst2 : stn = 1 ∨ stn = 2) (hla : 0 ≤ Cm.lastI s ws.length ∧ Cm.lastI s ws.length < ws.length) (hlo : -1 ≤ s.last ∧ s.last ≤ 2)
    (Dt Pv : Nat → Prop) (hD : ∀ k, (k = B1 ∨ k = B2 ∨ k = b) → Dt k) :
    SeqT true Tryz.prog 50 #[.pointer (some ⟨B1, 0, none⟩), .pointer (some ⟨B2, 0, none⟩)] encW Dt Pv (fun ys => ys = Cm.keysS s ws) (fun p => p <+: Cm.keysS s ws) (Cm.cnt s ws.length) w := by
  intro l J Jx W hW hJ _ _ hY h0
  have HB : SpBox W B1 s := (hW.block _ h1.lt).trans h1
  have HB2 : Boxed W B2 31 (.slice (some ⟨b, off, none⟩) ws.length cap) := (hW.block _ h2.lt).trans h2
  have hbW : b < W.heap.size := Nat.lt_of_lt_of_le hb hW.size
  have HC : Hid (∀ k, k < ws.length → W.cell? ⟨b, off + k, none⟩ = some (.string ⟨(ws.getD k []).toArray⟩)) := Lib.hid fun k hk => (hW.cell (p := ⟨b, off + k, none⟩) hb).trans (hc k hk)
  have hlt1 := HB.lt
  have hlt2 := HB2.lt
  have HD := Lib.hid hD
  have HY := Lib.hid hY
  -- how many keys there are
  have hcn : ∀ k : Nat, k < Cm.cnt s ws.length ↔ ((1 + k * stn : Nat) : Int) ≤ Cm.lastI s ws.length := by
    intro k
    rcases hst2 with rfl | rfl
    · rw [Cm.cnt_lt1 hf hst]; omega
    · rw [Cm.cnt_lt2 hf hst]; omega
  have hget : ∀ k, k < Cm.cnt s ws.length → (Cm.keysS s ws).getD k [] = ws.getD (1 + k * stn) [] := fun k hk => by rw [Cm.keysS_get hk, hst, Int.toNat_natCast]
  have hlen : (Cm.keysS s ws).length = Cm.cnt s ws.length := Cm.keysS_len s ws
  have HN := Lib.hid hcn
  have HG := Lib.hid hget
  have HL := Lib.hid hlen
  obtain ⟨la, hlast⟩ : ∃ la, Cm.lastI s ws.length = la := ⟨_, rfl⟩
  rw [hlast] at hla HN
  have hlv : la = if s.last < 0 then s.last + ws.length else s.last := by rw [← hlast]; rfl
  generalize Cm.keysS s ws = ks at *
  generalize Cm.cnt s ws.length = cn at *
  obtain ⟨c0, c1, c2, c3, c4, c5, c6⟩ := HB.at
  have d2 := HB2.cell
  simp only [Nat.zero_add] at c0 c1 c2 c3 c4 c5 c6
  rw [hf] at c3
  rw [hst] at c5
  obtain ⟨lb, ub⟩ := hla
  obtain ⟨lo1, lo2⟩ := hlo
  have hwl : (ws.length : Int) ≤ 1000 := by omega
  have hs1 : stn ≤ 2 := by omega
  have hs0 : 1 ≤ stn := by omega
  generalize s.last = sla at *
  clear h1 h2 hc HB HB2 hY hJ hD hcn hget hlen hlast hst hst2 hf
  refine callsIn_of_wp Tryz.func50 rfl trivial ?_ rfl
  simp only [Tryz.ntmps50, List.size_toArray, List.length_cons, List.length_nil, Nat.reduceAdd, Nat.reduceSub, Array.replicate_succ, Array.replicate_zero, List.push_toArray, List.append_toArray, List.nil_append, List.cons_append]
  by_cases hneg : sla < 0
  · rw [if_pos hneg] at hlv
    have HLV := Lib.hid hlv
    clear hlv
    gi_wp2
    rw [show sla + (ws.length : Int) = la from HLV.out.symm]
    gi_loopw [5] (fun i wr => ∃ (k m : Nat) (O : Nat → Prop), i = .int .i64 m ∧ k ≤ cn ∧ m ≤ 1003 ∧ 1 ≤ m ∧ Hid (m = 1 + k * stn) ∧ (∀ k, O k → W.heap.size ≤ k ∧ k < wr.heap.size) ∧ J O (ks.take k) wr ∧ Hid (Keeps (fun j => j = B1 ∨ j = B2 ∨ j = b) W wr)) (fun i _ => (la + 3 - intOf i).toNat)
    case atStart => exact ⟨0, 1, fun _ => False, rfl, Nat.zero_le _, by omega, by omega, Lib.hid (by omega), fun _ h => h.elim, by simpa using h0, Lib.hid (Keeps.refl _ _)⟩
    case round =>
      obtain ⟨k, m, O, rfl, hk, hm1, hm0, HM, hO, hJs, HK⟩ := hrel
      have HJs := Lib.hid hJs
      clear hJs
      have e5 := (HK.out.cell (p := ⟨B1, 5, none⟩) hlt1 (.inl rfl)).trans c5
      have e2 := (HK.out.cell (p := ⟨B2, 0, none⟩) hlt2 (.inr (.inl rfl))).trans d2
      by_cases hlt : k < cn
      · have hml := (HN.out k).1 hlt
        rw [← HM.out] at hml
        have hmw : m < ws.length := by omega
        have c1 := (HK.out.cell (p := ⟨b, off + m, none⟩) hbW (.inr (.inr rfl))).trans (HC.out m hmw)
        have hg := HG.out k hlt
        rw [← HM.out] at hg
        have HT : Hid (ks.take (k + 1) = ks.take k ++ [ws.getD m []]) := Lib.hid (by rw [← hg]; exact Cm.take_succ [] (by rw [HL.out]; exact hlt))
        have hwm : (ws.length : Int) ≤ 1000 := hwl
        have hmI : (m : Int) < (ws.length : Int) := by omega
        clear hg
        generalize ws.getD m [] = x at c1 HT
        obtain ⟨fn, tmps, assign, body, hy, hR⟩ := HY.out O (ks.take k) x wr (fun j hj => hO j hj) HK.out.size HJs.out (by rw [List.length_take]; omega)
        have HR := Lib.hid hR
        clear hR
        unfold encW at hy
        gi_wp2
        refine ⟨rfl, HR.out.mono ?_⟩
        rintro e W3 ⟨hk3, O', hg3, hout⟩
        have hO' : ∀ j, O' j → W.heap.size ≤ j ∧ j < W3.heap.size := fun j hj => by
          refine ⟨?_, (hg3 j hj).1⟩
          rcases (hg3 j hj).2 with h | h
          · exact (hO j h).1
          · have := HK.out.size
            omega
        have hK3 : Keeps (fun j => j = B1 ∨ j = B2 ∨ j = b) W W3 := HK.out.trans (hk3.mono fun j _ e => .inl (HD.out j e))
        have HK3 := Lib.hid hK3
        have HO' := Lib.hid hO'
        have g5 := (hK3.cell (p := ⟨B1, 5, none⟩) hlt1 (.inl rfl)).trans c5
        clear hk3 hg3 hK3 hO' e5 e2 c1
        rcases hout with ⟨rfl, hJ3⟩ | ⟨rfl, hJx3⟩
        · have HJ3 := Lib.hid hJ3
          clear hJ3
          gi_wp2
          go_roundw
          case rel => exact ⟨k + 1, m + stn, O', by go_num, by omega, by omega, by omega, Lib.hid (by rw [HM.out, Nat.add_mul]; omega), HO'.out, by rw [HT.out]; exact HJ3.out, HK3⟩
          case measure => simp [intOf]; omega
        · have HJ3 := Lib.hid hJx3
          clear hJx3
          gi_wp2
          refine bodyPost_ret (results_none rfl _ _ _) rfl ?_
          exact ⟨⟨_, rfl⟩, HK3.out.size, O', HO'.out, .inr ⟨_, HT.out ▸ List.take_prefix (k + 1) ks, HJ3.out⟩⟩
      · have hml : ¬ ((m : Int) ≤ la) := by rw [HM.out]; exact fun h => hlt ((HN.out k).2 h)
        have hml2 : la < (m : Int) := by omega
        obtain rfl : k = cn := by omega
        clear hml
        gi_wp2
        go_end0
        exact ⟨⟨_, rfl⟩, HK.out.size, O, hO, .inl ⟨ks, rfl, by have := HJs.out; rwa [List.take_of_length_le (by rw [HL.out]; exact Nat.le_refl _)] at this⟩⟩
  · rw [if_neg hneg] at hlv
    subst hlv
    gi_wp2
    skip
    gi_loopw [5] (fun i wr => ∃ (k m : Nat) (O : Nat → Prop), i = .int .i64 m ∧ k ≤ cn ∧ m ≤ 1003 ∧ 1 ≤ m ∧ Hid (m = 1 + k * stn) ∧ (∀ k, O k → W.heap.size ≤ k ∧ k < wr.heap.size) ∧ J O (ks.take k) wr ∧ Hid (Keeps (fun j => j = B1 ∨ j = B2 ∨ j = b) W wr)) (fun i _ => (la + 3 - intOf i).toNat)
    case atStart => exact ⟨0, 1, fun _ => False, rfl, Nat.zero_le _, by omega, by omega, Lib.hid (by omega), fun _ h => h.elim, by simpa using h0, Lib.hid (Keeps.refl _ _)⟩
    case round =>
      obtain ⟨k, m, O, rfl, hk, hm1, hm0, HM, hO, hJs, HK⟩ := hrel
      have HJs := Lib.hid hJs
      clear hJs
      have e5 := (HK.out.cell (p := ⟨B1, 5, none⟩) hlt1 (.inl rfl)).trans c5
      have e2 := (HK.out.cell (p := ⟨B2, 0, none⟩) hlt2 (.inr (.inl rfl))).trans d2
      by_cases hlt : k < cn
      · have hml := (HN.out k).1 hlt
        rw [← HM.out] at hml
        have hmw : m < ws.length := by omega
        have c1 := (HK.out.cell (p := ⟨b, off + m, none⟩) hbW (.inr (.inr rfl))).trans (HC.out m hmw)
        have hg := HG.out k hlt
        rw [← HM.out] at hg
        have HT : Hid (ks.take (k + 1) = ks.take k ++ [ws.getD m []]) := Lib.hid (by rw [← hg]; exact Cm.take_succ [] (by rw [HL.out]; exact hlt))
        have hwm : (ws.length : Int) ≤ 1000 := hwl
        have hmI : (m : Int) < (ws.length : Int) := by omega
        clear hg
        generalize ws.getD m [] = x at c1 HT
        obtain ⟨fn, tmps, assign, body, hy, hR⟩ := HY.out O (ks.take k) x wr (fun j hj => hO j hj) HK.out.size HJs.out (by rw [List.length_take]; omega)
        have HR := Lib.hid hR
        clear hR
        unfold encW at hy
        gi_wp2
        refine ⟨rfl, HR.out.mono ?_⟩
        rintro e W3 ⟨hk3, O', hg3, hout⟩
        have hO' : ∀ j, O' j → W.heap.size ≤ j ∧ j < W3.heap.size := fun j hj => by
          refine ⟨?_, (hg3 j hj).1⟩
          rcases (hg3 j hj).2 with h | h
          · exact (hO j h).1
          · have := HK.out.size
            omega
        have hK3 : Keeps (fun j => j = B1 ∨ j = B2 ∨ j = b) W W3 := HK.out.trans (hk3.mono fun j _ e => .inl (HD.out j e))
        have HK3 := Lib.hid hK3
        have HO' := Lib.hid hO'
        have g5 := (hK3.cell (p := ⟨B1, 5, none⟩) hlt1 (.inl rfl)).trans c5
        clear hk3 hg3 hK3 hO' e5 e2 c1
        rcases hout with ⟨rfl, hJ3⟩ | ⟨rfl, hJx3⟩
        · have HJ3 := Lib.hid hJ3
          clear hJ3
          gi_wp2
          go_roundw
          case rel => exact ⟨k + 1, m + stn, O', by go_num, by omega, by omega, by omega, Lib.hid (by rw [HM.out, Nat.add_mul]; omega), HO'.out, by rw [HT.out]; exact HJ3.out, HK3⟩
          case measure => simp [intOf]; omega
        · have HJ3 := Lib.hid hJx3
          clear hJx3
          gi_wp2
          refine bodyPost_ret (results_none rfl _ _ _) rfl ?_
          exact ⟨⟨_, rfl⟩, HK3.out.size, O', HO'.out, .inr ⟨_, HT.out ▸ List.take_prefix (k + 1) ks, HJ3.out⟩⟩
      · have hml : ¬ ((m : Int) ≤ la) := by rw [HM.out]; exact fun h => hlt ((HN.out k).2 h)
        have hml2 : la < (m : Int) := by omega
        obtain rfl : k = cn := by omega
        clear hml
        gi_wp2
        go_end0
        exact ⟨⟨_, rfl⟩, HK.out.size, O, hO, .inl ⟨ks, rfl, by have := HJs.out; rwa [List.take_of_length_le (by rw [HL.out]; exact Nat.le_refl _)] at this⟩⟩

/-- the iterator of the call's keys. -/
theorem cmKeys_seq (B1 B2 : Nat) (s : Cm.Sp) (a : Option Addr) (cap : Nat) (ws : List (List UInt8)) (w : World) (h1 : SpBox w B1 s) (h2 : Boxed w B2 31 (.slice a ws.length cap)) (hws : ws.length ≤ 1000) (hW : Wds w a cap ws) (ho : Cm.Ok s) (hn : Cm.countOk s ws.length = true)
    (Dt Pv : Nat → Prop) (hD : ∀ k, (k = B1 ∨ k = B2 ∨ ∃ off, a = some ⟨k, off, none⟩) → Dt k) :
    SeqT true Tryz.prog 50 #[.pointer (some ⟨B1, 0, none⟩), .pointer (some ⟨B2, 0, none⟩)] encW Dt Pv (fun ys => ys = Cm.keysS s ws) (fun p => p <+: Cm.keysS s ws) (Cm.cnt s ws.length) w := by
  have hl := Cm.countOk_least hn
  obtain ⟨_, _, hle, _, _, _, hc⟩ := id ho
  rcases hc with ⟨hf, _, _⟩ | ⟨hf, hst, hla, _, h2l⟩
  · exact keys_seq_none B1 B2 s ws w h1 hf Dt Pv _
  · obtain ⟨b, off, rfl, hb, hcell⟩ := hW.get (by omega)
    obtain ⟨stn, hs, hs2⟩ : ∃ stn : Nat, s.step = (stn : Int) ∧ (stn = 1 ∨ stn = 2) := by
      rcases hst with h | ⟨h, _⟩
      · exact ⟨1, h, .inl rfl⟩
      · exact ⟨2, h, .inr rfl⟩
    exact keys_seq_some B1 B2 b off cap stn s ws w h1 h2 hws hb hcell hf hs hs2 (Cm.lastI_lt ho hf hl) (by omega) Dt Pv (fun k hk => hD k (hk.imp id (Or.imp id fun e => ⟨off, by rw [e]⟩)))

end Go.Proofs.YtokcbcjonbjkgaaGreatDoor
