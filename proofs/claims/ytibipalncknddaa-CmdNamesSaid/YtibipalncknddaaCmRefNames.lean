/- The contract of the reference's Names. -/
import Derived.Test.YtibipalncknddaaCmTabRef
import Derived.Test.YtibipalncknddaaCmdKeysWalk
import Derived.Laws.AppendOwnNone
import Derived.Test.YtibipalncknddaaCmTexts
namespace Go.Proofs.Ytibipalncknddaa
open Go.RowKit Go.Shelf

namespace Cm
/-- where a word goes among words that rise. -/
def posn (x : List UInt8) : List (List UInt8) → Nat
  | [] => 0
  | y :: r => if Op.bytesLess y x then posn x r + 1 else 0
def ins (out : List (List UInt8)) (x : List UInt8) : List (List UInt8) := out.take (posn x out) ++ [x] ++ out.drop (posn x out)
def rn : Nat → List (List UInt8)
  | 0 => []
  | k + 1 => ins (rn k) (tab.getD k default).nm

theorem rn_all : rn 54 = names := by decide +kernel

theorem posn_le (x : List UInt8) : ∀ out, posn x out ≤ out.length
  | [] => Nat.le_refl _
  | y :: r => by
    have := posn_le x r
    unfold posn
    split
    · simp; omega
    · simp
theorem posn_lt (x : List UInt8) : ∀ out j, j < posn x out → Op.bytesLess (out.getD j []) x = true
  | [], j, h => by simp [posn] at h
  | y :: r, j, h => by
    unfold posn at h
    split at h
    · rename_i hy
      cases j with
      | zero => simpa using hy
      | succ j => simpa using posn_lt x r j (by omega)
    · omega
theorem posn_at (x : List UInt8) : ∀ out, posn x out < out.length → Op.bytesLess (out.getD (posn x out) []) x = false
  | [], h => by simp [posn] at h
  | y :: r, h => by
    unfold posn at h ⊢
    split
    · rename_i hy
      rw [if_pos hy] at h
      simpa using posn_at x r (by simp at h; omega)
    · rename_i hy
      simpa using hy

theorem rn_len : ∀ k, (rn k).length = k
  | 0 => rfl
  | k + 1 => by
    have h := rn_len k
    have hp := posn_le (tab.getD k default).nm (rn k)
    simp [rn, ins]
    omega
theorem rn_short : ∀ k, k ≤ 54 → ∀ s ∈ rn k, s.length ≤ 9
  | 0, _, s, hs => by simp [rn] at hs
  | k + 1, hk, s, hs => by
    unfold rn ins at hs
    rcases List.mem_append.1 hs with hs | hs
    · rcases List.mem_append.1 hs with hs | hs
      · exact rn_short k (by omega) s (List.mem_of_mem_take hs)
      · rw [List.mem_singleton.1 hs]
        have hl := tab_len
        rw [getD_eq (by omega)]
        exact (tab_ok _ (List.getElem_mem _)).2.1
    · exact rn_short k (by omega) s (List.mem_of_mem_drop hs)
end Cm

theorem RowW.up {w1 w2 W : World} {v : Value} {ws : List (List UInt8)} (h : RowW w2 v ws W) (hb : Below w1.heap.size w1 w2) : RowW w1 v ws W := ⟨owns_base h.1 hb.size, hb.trans (h.2.mono hb.size)⟩

theorem Wds.drop {w : World} {b off cap : Nat} {ws : List (List UInt8)} (h : Wds w (some ⟨b, off, Option.none⟩) cap ws) (n : Nat) (hn : n < cap) (hnw : n ≤ ws.length) : Wds w (some ⟨b, off + n, Option.none⟩) (cap - n) (ws.drop n) := by
  obtain ⟨h0, h1, h2, h3⟩ := h
  refine ⟨by rw [List.length_drop]; omega, by omega, fun s hs => h2 s (List.mem_of_mem_drop hs), ?_⟩
  rcases h3 with rfl | ⟨b', off', he, hlt, hc⟩
  · left; simp
  · cases he
    refine .inr ⟨b, off + n, rfl, hlt, fun k hk => ?_⟩
    rw [List.length_drop] at hk
    rw [Nat.add_assoc, hc (n + k) (by omega), Cm.getD_eq (l := ws) (by omega), Cm.getD_eq (by rw [List.length_drop]; exact hk), List.getElem_drop]

set_option maxRecDepth 100000 in
set_option maxHeartbeats 4000000 in
theorem refNames_any (w : World) : Calls Try.prog 17 #[] w (KOut w Cm.names) := by
  obtain ⟨i0, hi, hz0, hz1, hz2⟩ := info_parts info9
  have HTL := Lib.hid Cm.tab_len
  have HRl := Lib.hid Cm.rn_len
  go_enter Try.func17, Try.ntmps17
  go_wp2_with (go_at_call 24; refine (specs_any _).mono ?_; rintro e w1 ⟨bt, rfl, ht, hb⟩; have HT := Lib.hid ht; have HB1 := Lib.hid hb; clear ht hb)
  go_loopw [2, 3] (fun v i wr => ∃ (k : Nat) (sv : Value), k ≤ 54 ∧ i = .int .i64 k ∧ sv = v ∧ Hid (RowW w1 sv (Cm.rn k) wr) ∧ Hid (k = 0 → sv = .slice none 0 0)) (fun _ i _ => 54 - (intOf i).toNat)
  case atStart => exact ⟨0, _, Nat.zero_le _, rfl, rfl, Lib.hid ⟨by simpa [wcells, Cm.rn] using World.ownsRow_nil _ _ _ _, Below.refl _ _⟩, Lib.hid fun _ => rfl⟩
  case round =>
    obtain ⟨k, sv, hk, rfl, rfl, HR, HR0⟩ := hrel
    by_cases hlt : k < 54
    · have k0 : (0 : Int) ≤ (k : Int) := by omega
      have k1 : (k : Int) < 54 := by omega
      have hlen := HRl.out k
      have hsh : ∀ s ∈ Cm.rn k, s.length ≤ 9223372036854775807 := fun s hs => by have := Cm.rn_short k hk s hs; omega
      have hst : Cm.rn (k + 1) = Cm.ins (Cm.rn k) (Cm.tab.getD k default).nm := rfl
      have HSt := Lib.hid hst
      have hat := HT.out.at (k := k) (by rw [HTL.out]; exact hlt)
      have hge : Cm.tab[k]'(by rw [HTL.out]; exact hlt) = Cm.tab.getD k default := (Cm.getD_eq (by rw [HTL.out]; exact hlt)).symm
      rw [hge] at hat
      have HAt := Lib.hid hat.1
      have hxs : (Cm.tab.getD k default).nm.length ≤ 9 := by
        rw [Cm.getD_eq (by rw [HTL.out]; exact hlt)]
        exact (Cm.tab_ok _ (List.getElem_mem _)).2.1
      clear hst hat hge
      generalize (Cm.tab.getD k default).nm = x at *
      have hbt := HT.out.lt
      by_cases hk0 : k = 0
      · subst hk0
        have h0 := HR0.out rfl
        subst h0
        clear HR0
        have hA0 : w1.cell? ⟨bt, 0, none⟩ = some (.string ⟨x.toArray⟩) := by simpa using HAt.out
        have HA0 := Lib.hid hA0
        clear hA0
        obtain ⟨wo, rfl⟩ : ∃ wo : World, wo = wr := ⟨_, rfl⟩
        go_wp2
        go_loopw [4] (fun i w' => i = .int .i64 0 ∧ Hid (Below wo.heap.size wo w')) (fun _ _ => 0)
        case atStart => exact ⟨rfl, Lib.hid (Below.refl _ _)⟩
        case round =>
          obtain ⟨rfl, HBq⟩ := hrel
          go_wp2
          go_quiet (fail)
          obtain ⟨wz, hwz⟩ : ∃ wz, wr.drewN nq = wz := ⟨_, rfl⟩
          rw [hwz]
          have HBz : Hid (Below wo.heap.size wo wz) := Lib.hid (by rw [← hwz]; exact below_drewN HBq.out _)
          have hbtz : Below w1.heap.size w1 wz := HR.out.2.trans (HBz.out.mono HR.out.2.size)
          have hszz := hbtz.size
          have hbz : bt < wz.heap.size := Nat.lt_of_lt_of_le hbt hszz
          have HBtz := Lib.hid hbtz
          have hr0 := RowW.none (Below.refl wz.heap.size wz)
          clear hbtz
          go_wp2_with (at_builtin; refine wpList_append_own_none rfl (.tmp 31) (.tmp 34) 22 rfl wz.heap.size 9 i0 1 Try.underlying22 hi _ _ _ rfl hr0.1 rfl ?_; generalize hw5 : wz.alloc (.cells #[] 9) = w5; revert hw5)
          intro hw5
          have hr5 : RowW wz (.slice (some ⟨wz.heap.size, 0, none⟩) 0 0) [] w5 := by rw [← hw5]; exact hr0
          have hsz5 := hr5.2.size
          have c5t := ((HBtz.out.trans (hr5.2.mono hszz)).cell (p := ⟨bt, 0, none⟩) hbt).trans HA0.out
          clear hr0 hw5
          go_wp2_with (at_builtin; refine wpList_append_own _ rfl (.tmp 36) (.tmp 42) 22 rfl wz.heap.size 9 i0 (.string ⟨#[]⟩) 1 16 Try.underlying22 hi hz0 hz1 hz2 rfl (by decide) _ _ _ rfl (hr5.1.alloc _) ⟨w5.heap.size, 0, none⟩ 1 1 [.string ⟨x.toArray⟩] rfl rfl ?z1 ?z2 ?z3 ?z4 ?z5 ?_)
          case z1 => exact one_news _ _ rfl _ _
          case z2 => intro u hu; simp at hu; subst hu; rfl
          case z3 => unfold maxLen; simp
          case z4 => simp
          case z5 => simp; omega
          intro v6 w6 hown6 hgrow6 _
          have hr6 : RowW wz v6 ([] ++ [x]) w6 := hr5.append hown6 hgrow6
          have hsz6 := hr6.2.size
          clear hown6 hgrow6 hr5 c5t
          have hr7 : RowW w1 v6 (Cm.rn (0 + 1)) w6 := by rw [HSt.out]; exact hr6.up HBtz.out
          have HR7 := Lib.hid hr7
          clear hr7
          go_wp2_with (at_builtin; refine wpList_append_own_none rfl (.tmp 44) (.tmp 47) 22 rfl wz.heap.size 9 i0 1 Try.underlying22 hi _ _ _ rfl hr6.1 rfl ?_)
          go_roundw
          case rel => exact ⟨0 + 1, _, by omega, by go_num, rfl, HR7, Lib.hid fun h => by cases h⟩
          case measure => simp [intOf]
      · have hkp : 0 < k := by omega
        obtain ⟨a0, cap, hsv, hwd, hown⟩ := wds_of_row HR.out.1 hsh
        obtain ⟨g, hga, hg1, hg2, _⟩ := hown (by intro h; rw [h] at hlen; simp at hlen; omega)
        rw [hlen] at hsv
        clear HR0
        subst hsv
        subst hga
        have hpl := Cm.posn_le x (Cm.rn k)
        have HPlt := Lib.hid (Cm.posn_lt x (Cm.rn k))
        have HPat := Lib.hid (Cm.posn_at x (Cm.rn k))
        rw [hlen] at hpl HPat
        have HIns := Lib.hid (show Cm.ins (Cm.rn k) x = (Cm.rn k).take (Cm.posn x (Cm.rn k)) ++ [x] ++ (Cm.rn k).drop (Cm.posn x (Cm.rn k)) from rfl)
        have HWd := Lib.hid hwd
        have HLen := Lib.hid hlen
        have HSh := Lib.hid hsh
        have hcapI : k ≤ cap := by have := hwd.1; omega
        clear hwd hown hlen hsh
        generalize Cm.posn x (Cm.rn k) = p at *
        obtain ⟨wo, rfl⟩ : ∃ wo : World, wo = wr := ⟨_, rfl⟩
        go_wp2
        go_loopw [4] (fun i w' => ∃ q : Nat, q ≤ p ∧ i = .int .i64 q ∧ Hid (Below wo.heap.size wo w')) (fun i _ => p - (intOf i).toNat)
        case atStart => exact ⟨0, Nat.zero_le _, rfl, Lib.hid (Below.refl _ _)⟩
        case round =>
          obtain ⟨q, hq, rfl, HBq⟩ := hrel
          have q0 : (0 : Int) ≤ (q : Int) := by omega
          have hBt : Below w1.heap.size w1 wr := HR.out.2.trans (HBq.out.mono HR.out.2.size)
          have cT := (hBt.cell (p := ⟨bt, k * 7, none⟩) hbt).trans HAt.out
          clear hBt
          by_cases hqk : q < k
          · obtain ⟨b', o', he', _, hcO⟩ := (HWd.out.later HBq.out).get (by rw [HLen.out]; exact hkp)
            have hcq := hcO q (by rw [HLen.out]; exact hqk)
            cases he'
            rw [Nat.zero_add] at hcq
            have qk : (q : Int) < (k : Int) := by omega
            have hdk : decide ((q : Int) < (k : Int)) = true := by rw [decide_eq_true_eq]; omega
            have HLs := Lib.hid (HPlt.out q)
            have HPt := Lib.hid (show q = p → Op.bytesLess ((Cm.rn k).getD q []) x = false from fun h => by rw [h]; exact HPat.out (by omega))
            clear hcO
            generalize (Cm.rn k).getD q [] = y at *
            by_cases hqp : q < p
            · have hls := HLs.out hqp
              have hls2 : Op.bytesLess (⟨y.toArray⟩ : ByteArray).toList (⟨x.toArray⟩ : ByteArray).toList = true := by rw [Lib.toList_data, Lib.toList_data]; simpa using hls
              have hqp1 : q + 1 ≤ p := by omega
              clear hqp
              go_wp2
              go_quiet (fail)
              go_wp2
              go_roundw
              case rel => exact ⟨q + 1, by omega, by go_num, Lib.hid (below_drewN HBq.out _)⟩
              case measure => simp [intOf]; omega
            · have hqe : q = p := by omega
              have hls := HPt.out hqe
              have hls2 : Op.bytesLess (⟨y.toArray⟩ : ByteArray).toList (⟨x.toArray⟩ : ByteArray).toList = false := by rw [Lib.toList_data, Lib.toList_data]; simpa using hls
              have HQ := Lib.hid hqe
              clear hqp hqe
              go_wp2
              go_quiet (fail)
              obtain ⟨wz, hwz⟩ : ∃ wz, wr.drewN nq = wz := ⟨_, rfl⟩
              rw [hwz]
              have HBz : Hid (Below wo.heap.size wo wz) := Lib.hid (by rw [← hwz]; exact below_drewN HBq.out _)
              have hbtz : Below w1.heap.size w1 wz := HR.out.2.trans (HBz.out.mono HR.out.2.size)
              have hszz := hbtz.size
              have hsz0 := HBz.out.size
              have hgz : g < wz.heap.size := Nat.lt_of_lt_of_le hg2 hsz0
              have hbz : bt < wz.heap.size := Nat.lt_of_lt_of_le hbt hszz
              have HBtz := Lib.hid hbtz
              obtain ⟨ws1, hws1⟩ : ∃ ws1, (Cm.rn k).take q = ws1 := ⟨_, rfl⟩
              obtain ⟨ws3, hws3⟩ : ∃ ws3, (Cm.rn k).drop q = ws3 := ⟨_, rfl⟩
              have hl1 : ws1.length = q := by rw [← hws1, List.length_take, HLen.out]; omega
              have hl3 : ws3.length = k - q := by rw [← hws3, List.length_drop, HLen.out]
              have HE := Lib.hid (show Cm.rn (k + 1) = ws1 ++ [x] ++ ws3 from by rw [HSt.out, HIns.out, ← hws1, ← hws3, HQ.out])
              have hsh1 : ∀ s ∈ ws1, s.length ≤ 9223372036854775807 := fun s hs => HSh.out s (List.mem_of_mem_take (hws1 ▸ hs))
              have HT1 : Hid (∀ W, Below wz.heap.size wz W → Wds W (some ⟨g, 0, none⟩) cap ws1) := Lib.hid fun W h => by rw [← hws1]; exact ((HWd.out.later HBz.out).take q).later h
              have HT3 : Hid (q < cap → ∀ W, Below wz.heap.size wz W → Wds W (some ⟨g, q, none⟩) (cap - q) ws3) := Lib.hid fun hqc W h => by
                have := ((HWd.out.later HBz.out).drop q hqc (by rw [HLen.out]; omega)).later h
                rw [Nat.zero_add, hws3] at this
                exact this
              have hqcI : (q : Int) ≤ (cap : Int) := by omega
              have hqc : q ≤ cap := by omega
              have HL1 := Lib.hid hl1
              have HL3 := Lib.hid hl3
              clear hbtz hws1 hws3 hl1 hl3 hsh1 cT
              have hr0 := RowW.none (Below.refl wz.heap.size wz)
              have hnews := news_of (HT1.out (wz.alloc (.cells #[] 9)) ((Below.refl _ _).alloc (Nat.le_refl _) _))
              have HNews := Lib.hid hnews
              clear hnews
              go_wp2_with (at_builtin; refine wpList_append_own _ rfl (.tmp 31) (.tmp 34) 22 rfl wz.heap.size 9 i0 (.string ⟨#[]⟩) 1 16 Try.underlying22 hi hz0 hz1 hz2 rfl (by decide) _ _ _ rfl hr0.1 ⟨g, 0, none⟩ q cap (wcells ws1) rfl (by have := HL1.out; simp [wcells, this]) HNews.out news_one ?p3 ?p4 ?p5 ?_)
              case p3 => unfold maxLen; simp; omega
              case p4 => simp; omega
              case p5 => simp
              intro v5 w5 hown5 hgrow5 _
              rw [← HL1.out] at hown5
              have hr5 : RowW wz v5 ws1 w5 := hr0.copied hown5 hgrow5
              have hsz5 := hr5.2.size
              have c5t := ((HBtz.out.trans (hr5.2.mono hszz)).cell (p := ⟨bt, k * 7, none⟩) hbt).trans HAt.out
              clear hown5 hgrow5 hr0
              go_wp2_with (at_builtin; refine wpList_append_own _ rfl (.tmp 36) (.tmp 42) 22 rfl wz.heap.size 9 i0 (.string ⟨#[]⟩) 1 16 Try.underlying22 hi hz0 hz1 hz2 rfl (by decide) _ _ _ rfl (hr5.1.alloc _) ⟨w5.heap.size, 0, none⟩ 1 1 [.string ⟨x.toArray⟩] rfl rfl ?q1 ?q2 ?q3 ?q4 ?q5 ?_)
              case q1 => exact one_news _ _ rfl _ _
              case q2 => intro u hu; simp at hu; subst hu; rfl
              case q3 => rw [HL1.out]; unfold maxLen; omega
              case q4 => rw [HL1.out]; omega
              case q5 => simp; omega
              intro v6 w6 hown6 hgrow6 _
              have hr6 : RowW wz v6 (ws1 ++ [x]) w6 := hr5.append hown6 hgrow6
              have hl6 : (ws1 ++ [x]).length = q + 1 := by rw [List.length_append, HL1.out]; rfl
              have HL6 := Lib.hid hl6
              have hsz6 := hr6.2.size
              clear hown6 hgrow6 hr5 c5t hl6
              by_cases hqc2 : q < cap
              · have hqd : decide (cap = q) = false := by rw [decide_eq_false_iff_not]; omega
                have hqn : ¬ cap = q := by omega
                have hnews3 := news_of (HT3.out hqc2 w6 hr6.2)
                have HNews3 := Lib.hid hnews3
                clear hnews3
                go_wp2_with (at_builtin; refine wpList_append_own _ rfl (.tmp 44) (.tmp 47) 22 rfl wz.heap.size 9 i0 (.string ⟨#[]⟩) 1 16 Try.underlying22 hi hz0 hz1 hz2 rfl (by decide) _ _ _ rfl hr6.1 ⟨g, q, none⟩ (k - q) (cap - q) (wcells ws3) rfl (by have := HL3.out; simp [wcells, this]) HNews3.out news_one ?r3 ?r4 ?r5 ?_)
                case r3 => rw [HL6.out]; unfold maxLen; omega
                case r4 => rw [HL6.out]; omega
                case r5 => omega
                intro v7 w7 hown7 hgrow7 _
                have hr7 : RowW wz v7 (Cm.rn (k + 1)) w7 := by
                  rw [HE.out]
                  refine ⟨?_, hr6.2.trans ((Keeps.of_grown (S := fun j => some j ≠ v6.ownBlock) hgrow7 fun r e h => h e.symm).below hr6.2.size fun j hj e => by have := (hr6.1.lt j e.symm).1; omega)⟩
                  rw [List.length_append, HL3.out]
                  simpa [wcells] using hown7
                have HR7 := Lib.hid (hr7.up HBtz.out)
                clear hown7 hgrow7 hr6 hr7
                go_wp2
                go_roundw
                case rel => exact ⟨k + 1, _, by omega, by go_num, rfl, HR7, Lib.hid fun h => by omega⟩
                case measure => simp [intOf]; omega
              · exact absurd (show q < cap by omega) hqc2
          · have hqe : q = p := by omega
            have HQ := Lib.hid hqe
            have hkq2 : (k : Int) ≤ (q : Int) := by omega
            have hdk : decide ((q : Int) < (k : Int)) = false := by rw [decide_eq_false_iff_not]; omega
            have hdn : decide (q < k) = false := by rw [decide_eq_false_iff_not]; omega
            have hkqe : k = q := by omega
            have HKQ := Lib.hid hkqe
            clear hqe hkqe hqk
            go_wp2
            go_quiet (fail)
            obtain ⟨wz, hwz⟩ : ∃ wz, wr.drewN nq = wz := ⟨_, rfl⟩
            rw [hwz]
            have HBz : Hid (Below wo.heap.size wo wz) := Lib.hid (by rw [← hwz]; exact below_drewN HBq.out _)
            have hbtz : Below w1.heap.size w1 wz := HR.out.2.trans (HBz.out.mono HR.out.2.size)
            have hszz := hbtz.size
            have hsz0 := HBz.out.size
            have hgz : g < wz.heap.size := Nat.lt_of_lt_of_le hg2 hsz0
            have hbz : bt < wz.heap.size := Nat.lt_of_lt_of_le hbt hszz
            have HBtz := Lib.hid hbtz
            obtain ⟨ws1, hws1⟩ : ∃ ws1, (Cm.rn k).take q = ws1 := ⟨_, rfl⟩
            obtain ⟨ws3, hws3⟩ : ∃ ws3, (Cm.rn k).drop q = ws3 := ⟨_, rfl⟩
            have hl1 : ws1.length = q := by rw [← hws1, List.length_take, HLen.out]; omega
            have hl3 : ws3.length = k - q := by rw [← hws3, List.length_drop, HLen.out]
            have HE := Lib.hid (show Cm.rn (k + 1) = ws1 ++ [x] ++ ws3 from by rw [HSt.out, HIns.out, ← hws1, ← hws3, HQ.out])
            have hsh1 : ∀ s ∈ ws1, s.length ≤ 9223372036854775807 := fun s hs => HSh.out s (List.mem_of_mem_take (hws1 ▸ hs))
            have HT1 : Hid (∀ W, Below wz.heap.size wz W → Wds W (some ⟨g, 0, none⟩) cap ws1) := Lib.hid fun W h => by rw [← hws1]; exact ((HWd.out.later HBz.out).take q).later h
            have HT3 : Hid (q < cap → ∀ W, Below wz.heap.size wz W → Wds W (some ⟨g, q, none⟩) (cap - q) ws3) := Lib.hid fun hqc W h => by
              have := ((HWd.out.later HBz.out).drop q hqc (by rw [HLen.out]; omega)).later h
              rw [Nat.zero_add, hws3] at this
              exact this
            have hqcI : (q : Int) ≤ (cap : Int) := by omega
            have hqc : q ≤ cap := by omega
            have HL1 := Lib.hid hl1
            have HL3 := Lib.hid hl3
            clear hbtz hws1 hws3 hl1 hl3 hsh1 cT
            have hr0 := RowW.none (Below.refl wz.heap.size wz)
            have hnews := news_of (HT1.out (wz.alloc (.cells #[] 9)) ((Below.refl _ _).alloc (Nat.le_refl _) _))
            have HNews := Lib.hid hnews
            clear hnews
            go_wp2_with (at_builtin; refine wpList_append_own _ rfl (.tmp 31) (.tmp 34) 22 rfl wz.heap.size 9 i0 (.string ⟨#[]⟩) 1 16 Try.underlying22 hi hz0 hz1 hz2 rfl (by decide) _ _ _ rfl hr0.1 ⟨g, 0, none⟩ q cap (wcells ws1) rfl (by have := HL1.out; simp [wcells, this]) HNews.out news_one ?t3 ?t4 ?t5 ?_)
            case t3 => unfold maxLen; simp; omega
            case t4 => simp; omega
            case t5 => simp
            intro v5 w5 hown5 hgrow5 _
            rw [← HL1.out] at hown5
            have hr5 : RowW wz v5 ws1 w5 := hr0.copied hown5 hgrow5
            have hsz5 := hr5.2.size
            have c5t := ((HBtz.out.trans (hr5.2.mono hszz)).cell (p := ⟨bt, k * 7, none⟩) hbt).trans HAt.out
            clear hown5 hgrow5 hr0
            go_wp2_with (at_builtin; refine wpList_append_own _ rfl (.tmp 36) (.tmp 42) 22 rfl wz.heap.size 9 i0 (.string ⟨#[]⟩) 1 16 Try.underlying22 hi hz0 hz1 hz2 rfl (by decide) _ _ _ rfl (hr5.1.alloc _) ⟨w5.heap.size, 0, none⟩ 1 1 [.string ⟨x.toArray⟩] rfl rfl ?u1 ?u2 ?u3 ?u4 ?u5 ?_)
            case u1 => exact one_news _ _ rfl _ _
            case u2 => intro u hu; simp at hu; subst hu; rfl
            case u3 => rw [HL1.out]; unfold maxLen; omega
            case u4 => rw [HL1.out]; omega
            case u5 => simp; omega
            intro v6 w6 hown6 hgrow6 _
            have hr6 : RowW wz v6 (ws1 ++ [x]) w6 := hr5.append hown6 hgrow6
            have hl6 : (ws1 ++ [x]).length = q + 1 := by rw [List.length_append, HL1.out]; rfl
            have HL6 := Lib.hid hl6
            have hsz6 := hr6.2.size
            clear hown6 hgrow6 hr5 c5t hl6
            by_cases hqc2 : q < cap
            · have hqd : decide (cap = q) = false := by rw [decide_eq_false_iff_not]; omega
              have hqn : ¬ cap = q := by omega
              have hnews3 := news_of (HT3.out hqc2 w6 hr6.2)
              have HNews3 := Lib.hid hnews3
              clear hnews3
              go_wp2_with (at_builtin; refine wpList_append_own _ rfl (.tmp 44) (.tmp 47) 22 rfl wz.heap.size 9 i0 (.string ⟨#[]⟩) 1 16 Try.underlying22 hi hz0 hz1 hz2 rfl (by decide) _ _ _ rfl hr6.1 ⟨g, q, none⟩ (k - q) (cap - q) (wcells ws3) rfl (by have := HL3.out; simp [wcells, this]) HNews3.out news_one ?v3 ?v4 ?v5 ?_)
              case v3 => rw [HL6.out]; unfold maxLen; omega
              case v4 => rw [HL6.out]; omega
              case v5 => omega
              intro v7 w7 hown7 hgrow7 _
              have hr7 : RowW wz v7 (Cm.rn (k + 1)) w7 := by
                rw [HE.out]
                refine ⟨?_, hr6.2.trans ((Keeps.of_grown (S := fun j => some j ≠ v6.ownBlock) hgrow7 fun r e h => h e.symm).below hr6.2.size fun j hj e => by have := (hr6.1.lt j e.symm).1; omega)⟩
                rw [List.length_append, HL3.out]
                simpa [wcells] using hown7
              have HR7 := Lib.hid (hr7.up HBtz.out)
              clear hown7 hgrow7 hr6 hr7
              go_wp2
              go_roundw
              case rel => exact ⟨k + 1, _, by omega, by go_num, rfl, HR7, Lib.hid fun h => by omega⟩
              case measure => simp [intOf]; omega
            · have hqe2 : cap = q := by omega
              have hkq : k - q = 0 := by omega
              have hnil : ws3 = [] := List.eq_nil_of_length_eq_zero (by rw [HL3.out]; exact hkq)
              have HNil := Lib.hid hnil
              have HKq := Lib.hid hkq
              have hqd : decide (cap = q) = true := by rw [decide_eq_true_eq]; exact hqe2
              clear hnil hkq
              clear hqd
              subst hqe2
              go_wp2_with (at_builtin; refine wpList_append_own _ rfl (.tmp 44) (.tmp 47) 22 rfl wz.heap.size 9 i0 (.string ⟨#[]⟩) 1 16 Try.underlying22 hi hz0 hz1 hz2 rfl (by decide) _ _ _ rfl hr6.1 ⟨g, 0, none⟩ 0 0 [] rfl rfl (by intro j u hu; simp at hu) (by intro u hu; simp at hu) ?x3 ?x4 ?x5 ?_)
              case x3 => rw [HL6.out]; unfold maxLen; omega
              case x4 => rw [HL6.out]; omega
              case x5 => omega
              intro v7 w7 hown7 hgrow7 _
              have hr7 : RowW wz v7 (Cm.rn (k + 1)) w7 := by
                rw [HE.out, HNil.out, List.append_nil]
                refine ⟨?_, hr6.2.trans ((Keeps.of_grown (S := fun j => some j ≠ v6.ownBlock) hgrow7 fun r e h => h e.symm).below hr6.2.size fun j hj e => by have := (hr6.1.lt j e.symm).1; omega)⟩
                simpa [wcells] using hown7
              have HR7 := Lib.hid (hr7.up HBtz.out)
              clear hown7 hgrow7 hr6 hr7
              go_wp2
              go_roundw
              case rel => exact ⟨k + 1, _, by omega, by go_num, rfl, HR7, Lib.hid fun h => by omega⟩
              case measure => simp [intOf]; omega
    · obtain rfl : k = 54 := by omega
      have hr := HR.out
      rw [Cm.rn_all] at hr
      obtain ⟨a0, cap, hsv, hwd, -⟩ := wds_of_row hr.1 (fun s hs => by have := Cm.names_short s hs; omega)
      subst hsv
      have HWd := Lib.hid hwd
      have HBe := Lib.hid (HB1.out.trans (hr.2.mono HB1.out.size))
      clear hr hwd HR HR0
      go_wp2
      go_ret
      exact ⟨a0, cap, rfl, HWd.out, HBe.out⟩

end Go.Proofs.Ytibipalncknddaa
