/- The contract of the reference's keys, by a row of the table. -/
import Derived.Test.YtibipalncknddaaCmAwake
import Derived.Test.YtibipalncknddaaCmRefFind
namespace Go.Proofs.Ytibipalncknddaa
open Go.RowKit Go.Shelf

set_option maxRecDepth 100000 in
set_option maxHeartbeats 4000000 in
theorem refKeysBy_none (s : Cm.Sp) (a : Option Addr) (n cap : Nat) (ws : List (List UInt8)) (w : World) (hn : n ≤ 1000) (hf : s.first = 0) (hl : s.last = 0) :
    Calls Try.prog 21 #[spV s, .slice a n cap] w (KOut w (Cm.keysS s ws)) := by
  have hs : Cm.keysS s ws = [] := by simp [Cm.keysS, Cm.cnt, hf]
  rw [hs]
  obtain ⟨nm, least, most, first, last, step, wb⟩ := s
  simp only at hf hl
  subst hf hl
  have hnI : (n : Int) ≤ 1000 := by omega
  clear hs
  simp only [spV]
  go_enter Try.func21, Try.ntmps21
  go_wp2
  go_loop [5, 7] (fun v i => v = .slice none 0 0 ∧ i = .int .i64 0) (fun _ _ => 0)
  case atStart => exact ⟨rfl, rfl⟩
  case round =>
    obtain ⟨rfl, rfl⟩ := hrel
    go_wp2
    go_ret
    exact ⟨_, _, rfl, wds_nil _, (Below.refl _ _).alloc (Nat.le_refl _) _⟩

set_option maxRecDepth 100000 in
set_option maxHeartbeats 4000000 in
theorem refKeysBy_some (s : Cm.Sp) (b off cap stn : Nat) (ws : List (List UInt8)) (w : World) (hws : ws.length ≤ 1000) (hb : b < w.heap.size) (hc : ∀ k, k < ws.length → w.cell? ⟨b, off + k, none⟩ = some (.string ⟨(ws.getD k []).toArray⟩)) (hsh : ∀ k, (ws.getD k []).length ≤ 9223372036854775807)
    (hf : s.first = 1) (hst : s.step = (stn : Int)) (hst2 : stn = 1 ∨ stn = 2) (hla : 0 ≤ Cm.lastI s ws.length ∧ Cm.lastI s ws.length < ws.length) (hlo : -1 ≤ s.last ∧ s.last ≤ 2) :
    Calls Try.prog 21 #[spV s, .slice (some ⟨b, off, none⟩) ws.length cap] w (KOut w (Cm.keysS s ws)) := by
  obtain ⟨i0, hi, hz0, hz1, hz2⟩ := info_parts info9
  have HSh := Lib.hid (Cm.keysS_short (s := s) (ws := ws) hsh)
  have HC := Lib.hid hc
  have hcn : ∀ k : Nat, k < Cm.cnt s ws.length ↔ ((1 + k * stn : Nat) : Int) ≤ Cm.lastI s ws.length := by
    intro k
    rcases hst2 with rfl | rfl
    · rw [Cm.cnt_lt1 hf hst]; omega
    · rw [Cm.cnt_lt2 hf hst]; omega
  have hget : ∀ k, k < Cm.cnt s ws.length → (Cm.keysS s ws).getD k [] = ws.getD (1 + k * stn) [] := fun k hk => by rw [Cm.keysS_get hk, hst, Int.toNat_natCast]
  have hlen : (Cm.keysS s ws).length = Cm.cnt s ws.length := Cm.keysS_len s ws
  have hcb : Cm.cnt s ws.length ≤ 1000 := by
    unfold Cm.cnt
    rw [if_neg (by omega)]
    split <;> omega
  have HN := Lib.hid hcn
  have HG := Lib.hid hget
  have HL := Lib.hid hlen
  obtain ⟨la, hlast⟩ : ∃ la, Cm.lastI s ws.length = la := ⟨_, rfl⟩
  rw [hlast] at hla HN
  have hlv : la = if s.last < 0 then s.last + ws.length else s.last := by rw [← hlast]; rfl
  generalize Cm.keysS s ws = ks at *
  generalize Cm.cnt s ws.length = cn at *
  obtain ⟨lb, ub⟩ := hla
  obtain ⟨lo1, lo2⟩ := hlo
  have hwl : (ws.length : Int) ≤ 1000 := by omega
  have hs1 : stn ≤ 2 := by omega
  have hs0 : 1 ≤ stn := by omega
  obtain ⟨nm, least, most, first, sla, step, wb⟩ := s
  simp only at hf hst hlv lo1 lo2
  subst hf hst
  obtain ⟨w1, hw1⟩ : ∃ w1, w.alloc (.cells #[.string ⟨nm.toArray⟩, .int .i64 least, .int .i64 most, .int .i64 1, .int .i64 sla, .int .i64 (stn : Int), .bool wb] 26) = w1 := ⟨_, rfl⟩
  have hs1b : SpBox w1 w.heap.size ⟨nm, least, most, 1, sla, (stn : Int), wb⟩ := by rw [← hw1]; exact World.alloc_heap_new w _
  have hbw1 : Below w.heap.size w w1 := by rw [← hw1]; exact (Below.refl _ w).alloc (Nat.le_refl _) _
  have hlt1 := hs1b.lt
  have hsz1 := hbw1.size
  obtain ⟨c0, c1, c2, c3, c4, c5, c6⟩ := hs1b.at
  simp only [Nat.zero_add] at c0 c1 c2 c3 c4 c5 c6
  have HW1 := Lib.hid hbw1
  have HE := Lib.hid hw1
  clear hc hcn hget hlen hlast hst2 hs1b hbw1 hw1 hsh
  simp only [spV]
  go_enter Try.func21, Try.ntmps21
  go_upto_region 1 with (fail)
  rw [HE.out]
  by_cases hneg : sla < 0
  · rw [if_pos hneg] at hlv
    have HLV := Lib.hid hlv
    clear hlv
    go_wp2
    rw [show (ws.length : Int) + sla = la by rw [HLV.out]; omega]
    go_loopw [5, 7] (fun v i wr => ∃ (k m : Nat) (sv : Value), i = .int .i64 m ∧ k ≤ cn ∧ m ≤ 1003 ∧ 1 ≤ m ∧ Hid (m = 1 + k * stn) ∧ sv = v ∧ Hid (RowW w1 sv (ks.take k) wr)) (fun _ i _ => (la + 3 - intOf i).toNat)
    case atStart => exact ⟨0, 1, _, rfl, Nat.zero_le _, by omega, by omega, Lib.hid (by omega), rfl, Lib.hid ⟨by simpa [wcells] using World.ownsRow_nil _ _ _ _, Below.refl _ _⟩⟩
    case round =>
      obtain ⟨k, m, sv, rfl, hk, hm1, hm0, HM, rfl, HR⟩ := hrel
      have hszr := HR.out.2.size
      have e5 := (HR.out.2.cell (p := ⟨w.heap.size, 5, none⟩) hlt1).trans c5
      have hm0I : (0 : Int) < (m : Int) := by omega
      by_cases hlt : k < cn
      · have hml := (HN.out k).1 hlt
        rw [← HM.out] at hml
        have hmw : m < ws.length := by omega
        have q1 := ((HW1.out.trans (HR.out.2.mono hsz1)).cell (p := ⟨b, off + m, none⟩) hb).trans (HC.out m hmw)
        have hg := HG.out k hlt
        rw [← HM.out] at hg
        have HT : Hid (ks.take (k + 1) = ks.take k ++ [ws.getD m []]) := Lib.hid (by rw [← hg]; exact Cm.take_succ [] (by rw [HL.out]; exact hlt))
        have hkl : (ks.take k).length ≤ 1000 := by rw [List.length_take, HL.out]; omega
        have hmI : (m : Int) < (ws.length : Int) := by omega
        clear hg
        generalize ws.getD m [] = x at q1 HT
        go_wp2_with (at_builtin; refine wpList_append_own _ rfl (.tmp 29) (.tmp 34) 22 rfl w1.heap.size 9 i0 (.string ⟨#[]⟩) 1 16 Try.underlying22 hi hz0 hz1 hz2 rfl (by decide) _ _ _ rfl (HR.out.1.alloc _) ⟨wr.heap.size, 0, none⟩ 1 1 [.string ⟨x.toArray⟩] rfl rfl ?a1 ?a2 ?a3 ?a4 ?a5 ?_)
        case a1 => exact one_news _ _ rfl _ _
        case a2 => intro u hu; simp at hu; subst hu; rfl
        case a3 => unfold maxLen; omega
        case a4 => omega
        case a5 => simp; omega
        intro v6 w6 hown6 hgrow6 _
        have hr6 : RowW w1 v6 (ks.take (k + 1)) w6 := by rw [← List.length_take] at hown6; rw [HT.out]; exact HR.out.append hown6 hgrow6
        have HR6 := Lib.hid hr6
        have e6 := (hr6.2.cell (p := ⟨w.heap.size, 5, none⟩) hlt1).trans c5
        clear hown6 hgrow6 hr6 e5 q1
        go_wp2
        go_roundw
        case rel => exact ⟨k + 1, m + stn, _, by go_num, by omega, by omega, by omega, Lib.hid (by rw [HM.out, Nat.add_mul]; omega), rfl, HR6⟩
        case measure => simp [intOf]; omega
      · have hml : ¬ ((m : Int) ≤ la) := by rw [HM.out]; exact fun h => hlt ((HN.out k).2 h)
        have hml2 : la < (m : Int) := by omega
        obtain rfl : k = cn := by omega
        have hrow := HR.out
        rw [List.take_of_length_le (by rw [HL.out]; exact Nat.le_refl _)] at hrow
        obtain ⟨a', cap', rfl, hwd, -⟩ := wds_of_row hrow.1 HSh.out
        have HWd := Lib.hid hwd
        clear hml hrow hwd
        go_wp2
        go_ret
        exact ⟨a', cap', rfl, HWd.out, HW1.out.trans (HR.out.2.mono hsz1)⟩
  · rw [if_neg hneg] at hlv
    subst hlv
    go_wp2
    go_loopw [5, 7] (fun v i wr => ∃ (k m : Nat) (sv : Value), i = .int .i64 m ∧ k ≤ cn ∧ m ≤ 1003 ∧ 1 ≤ m ∧ Hid (m = 1 + k * stn) ∧ sv = v ∧ Hid (RowW w1 sv (ks.take k) wr)) (fun _ i _ => (la + 3 - intOf i).toNat)
    case atStart => exact ⟨0, 1, _, rfl, Nat.zero_le _, by omega, by omega, Lib.hid (by omega), rfl, Lib.hid ⟨by simpa [wcells] using World.ownsRow_nil _ _ _ _, Below.refl _ _⟩⟩
    case round =>
      obtain ⟨k, m, sv, rfl, hk, hm1, hm0, HM, rfl, HR⟩ := hrel
      have hszr := HR.out.2.size
      have e5 := (HR.out.2.cell (p := ⟨w.heap.size, 5, none⟩) hlt1).trans c5
      have hm0I : (0 : Int) < (m : Int) := by omega
      by_cases hlt : k < cn
      · have hml := (HN.out k).1 hlt
        rw [← HM.out] at hml
        have hmw : m < ws.length := by omega
        have q1 := ((HW1.out.trans (HR.out.2.mono hsz1)).cell (p := ⟨b, off + m, none⟩) hb).trans (HC.out m hmw)
        have hg := HG.out k hlt
        rw [← HM.out] at hg
        have HT : Hid (ks.take (k + 1) = ks.take k ++ [ws.getD m []]) := Lib.hid (by rw [← hg]; exact Cm.take_succ [] (by rw [HL.out]; exact hlt))
        have hkl : (ks.take k).length ≤ 1000 := by rw [List.length_take, HL.out]; omega
        have hmI : (m : Int) < (ws.length : Int) := by omega
        clear hg
        generalize ws.getD m [] = x at q1 HT
        go_wp2_with (at_builtin; refine wpList_append_own _ rfl (.tmp 29) (.tmp 34) 22 rfl w1.heap.size 9 i0 (.string ⟨#[]⟩) 1 16 Try.underlying22 hi hz0 hz1 hz2 rfl (by decide) _ _ _ rfl (HR.out.1.alloc _) ⟨wr.heap.size, 0, none⟩ 1 1 [.string ⟨x.toArray⟩] rfl rfl ?b1 ?b2 ?b3 ?b4 ?b5 ?_)
        case b1 => exact one_news _ _ rfl _ _
        case b2 => intro u hu; simp at hu; subst hu; rfl
        case b3 => unfold maxLen; omega
        case b4 => omega
        case b5 => simp; omega
        intro v6 w6 hown6 hgrow6 _
        have hr6 : RowW w1 v6 (ks.take (k + 1)) w6 := by rw [← List.length_take] at hown6; rw [HT.out]; exact HR.out.append hown6 hgrow6
        have HR6 := Lib.hid hr6
        have e6 := (hr6.2.cell (p := ⟨w.heap.size, 5, none⟩) hlt1).trans c5
        clear hown6 hgrow6 hr6 e5 q1
        go_wp2
        go_roundw
        case rel => exact ⟨k + 1, m + stn, _, by go_num, by omega, by omega, by omega, Lib.hid (by rw [HM.out, Nat.add_mul]; omega), rfl, HR6⟩
        case measure => simp [intOf]; omega
      · have hml : ¬ ((m : Int) ≤ la) := by rw [HM.out]; exact fun h => hlt ((HN.out k).2 h)
        have hml2 : la < (m : Int) := by omega
        obtain rfl : k = cn := by omega
        have hrow := HR.out
        rw [List.take_of_length_le (by rw [HL.out]; exact Nat.le_refl _)] at hrow
        obtain ⟨a', cap', rfl, hwd, -⟩ := wds_of_row hrow.1 HSh.out
        have HWd := Lib.hid hwd
        clear hml hrow hwd
        go_wp2
        go_ret
        exact ⟨a', cap', rfl, HWd.out, HW1.out.trans (HR.out.2.mono hsz1)⟩

theorem refKeysBy_any (s : Cm.Sp) (a : Option Addr) (cap : Nat) (ws : List (List UInt8)) (w : World) (hW : Wds w a cap ws) (hws : ws.length ≤ 1000) (ho : Cm.Ok s) (hl : s.least ≤ ws.length) :
    Calls Try.prog 21 #[spV s, .slice a ws.length cap] w (KOut w (Cm.keysS s ws)) := by
  obtain ⟨_, _, hle, _, _, _, hc⟩ := id ho
  rcases hc with ⟨hf, hla, _⟩ | ⟨hf, hst, hla, _, h2l⟩
  · exact refKeysBy_none s a ws.length cap ws w hws hf hla
  · obtain ⟨b, off, rfl, hb, hcell⟩ := hW.get (by omega)
    obtain ⟨stn, hs, hs2⟩ : ∃ stn : Nat, s.step = (stn : Int) ∧ (stn = 1 ∨ stn = 2) := by
      rcases hst with h | ⟨h, _⟩
      · exact ⟨1, h, .inl rfl⟩
      · exact ⟨2, h, .inr rfl⟩
    exact refKeysBy_some s b off cap stn ws w hws hb hcell (fun k => hW.len) hf hs hs2 (Cm.lastI_lt ho hf hl) (by omega)

end Go.Proofs.Ytibipalncknddaa
