/- The walk of ItemLimits: a list or a set. -/
import Derived.Test.YtdnonginlbjcoaaItNew
import Derived.Test.YtdnonginlbjcoaaItLimPlain
import Derived.Test.YtdnonginlbjcoaaDig
import Derived.Test.YtdnonginlbjcoaaItemLimitsHash
import Derived.Deep.DeepFit
namespace Go.Proofs.Ytdnonginlbjcoaa
open Go.RowKit Go.Shelf
set_option linter.unusedVariables false
set_option linter.unusedSimpArgs false

set_option maxRecDepth 100000 in
set_option maxHeartbeats 8000000 in
theorem lim_list (kind n long x : Int) (K : Int) (m k : Nat) (w : World) (a1 : 0 ≤ kind) (a2 : kind ≤ 255) (a3 : 0 ≤ n) (a4 : n ≤ 255) (a5 : 0 ≤ long) (a6 : long ≤ 65535) (a7 : -9223372036854775808 ≤ x) (a8 : x ≤ 9223372036854775807) (hk0 : 2 + kind % 3 = K ∧ (K = 3 ∨ K = 4)) (hn : n % 50 = k) (hm : long % 400 = m) (hk : k < 50) (hm4 : m < 400) :
    Calls Try.prog 5 #[.int .u8 kind, .int .u8 n, .int .u16 long, .int .i64 x] w fun e W' => e = .returned (.bool true) ∧ Below w.heap.size w W' := by
  obtain ⟨hk0, hK⟩ := hk0
  have hK2 : (K == 2) = false := by rcases hK with rfl | rfl <;> rfl
  have hK3 : (K != 2) = true := by rcases hK with rfl | rfl <;> rfl
  have HKK := Lib.hid hK
  clear hK
  obtain ⟨iF, hiF, hiF0, hiF1, hiF2⟩ := info_parts info9
  go_enter Try.func5, Try.ntmps5
  go_wp2
  go_loop [11] (fun s => ∃ q : Nat, q ≤ m ∧ s = .string ⟨(Lim.xs q).toArray⟩) (fun s => match s with | .string b => m - b.size | _ => 0)
  case atStart => exact ⟨0, Nat.zero_le _, rfl⟩
  case round =>
    obtain ⟨q, hq, rfl⟩ := hrel
    obtain ⟨b, hb⟩ : ∃ b : ByteArray, ⟨(Lim.xs q).toArray⟩ = b := ⟨_, rfl⟩
    have hsz : b.size = q := by rw [← hb, Lim.size_mk, Lim.xs_len]
    have hnx := Lim.xs_next q
    rw [hb] at hnx ⊢
    have HNX := Lib.hid hnx
    have HB := Lib.hid hb
    clear hnx hb
    by_cases hlt : q < m
    · go_wp2
      go_round
      case rel => exact ⟨q + 1, by omega, by rw [HNX.out]⟩
      case measure =>
        have h2 : (b ++ ⟨#[120]⟩ : ByteArray).size = q + 1 := by rw [HNX.out, Lim.size_mk, Lim.xs_len]
        simp only [h2, hsz]
        omega
    · obtain rfl : q = m := by omega
      go_upto_region 5 with (fail)
      rw [← HB.out]
      clear hsz HNX HB hlt hq
      have hql : (Lim.xs q).length ≤ 1000 := by rw [Lim.xs_len]; omega
      go_upto_region 7 with (fail)
      rw [hn, hm]
      obtain ⟨W1, hW1⟩ : ∃ W1, (w.alloc (.cells #[.int .i64 K, .string ⟨#[]⟩, .slice none 0 0, .slice none 0 0, .int .i64 x] 25)).alloc (.cells #[.int .i64 1, .string ⟨(Lim.xs q).toArray⟩, .slice none 0 0, .slice none 0 0, .int .i64 x] 25) = W1 := ⟨_, rfl⟩
      have hbi : ItBox W1 w.heap.size K [] none 0 0 none 0 0 x := by
        rw [← hW1]
        exact ItBox.later (ItBox.new w K [] none 0 0 none 0 0 x) ((Below.refl _ _).alloc (Nat.le_refl _) _)
      have hbt : ItBox W1 (w.heap.size + 1) 1 (Lim.xs q) none 0 0 none 0 0 x := by
        rw [← hW1]
        have := ItBox.new (w.alloc (itc K [] none 0 0 none 0 0 x)) 1 (Lim.xs q) none 0 0 none 0 0 x
        rwa [World.size_alloc] at this
      have hbw : Below w.heap.size w W1 := by rw [← hW1]; exact ((Below.refl _ w).alloc (Nat.le_refl _) _).alloc (by simp) _
      have hz1 : W1.heap.size = w.heap.size + 2 := by rw [← hW1]; simp
      rw [hW1]
      have HBI := Lib.hid hbi
      have HBT := Lib.hid hbt
      have HBW := Lib.hid hbw
      have HZ1 := Lib.hid hz1
      have hlt1 : w.heap.size < W1.heap.size := by omega
      have hkk : (k : Int) < 50 := by omega
      clear hbi hbt hbw hW1 hz1 hn hm hk0
      go_wp2_with fail
      go_loopw [14] (fun i wr => ∃ p : Nat, p ≤ k ∧ i = .int .i64 p ∧ Hid (CpL W1 w.heap.size K [] none 0 0 x (Lim.wsN q k) p wr)) (fun i _ => k - (intOf i).toNat)
      case atStart => exact ⟨0, Nat.zero_le _, rfl, Lib.hid ⟨none, 0, HBI.out, World.ownsRow_nil _ _ _ _, Keeps.refl _ _⟩⟩
      case round =>
        obtain ⟨p, hp, rfl, HQ⟩ := hrel
        by_cases hlt : p < k
        · obtain ⟨a, c, hqx, hqo, hqk⟩ := HQ.out
          have HO := Lib.hid hqo
          have HX := Lib.hid hqx
          have HK := Lib.hid hqk
          have hzr : W1.heap.size ≤ wr.heap.size := hqk.size
          obtain ⟨dg, hdg⟩ : ∃ dg, Dig.dec ((100 + p : Nat) : Int) = dg := ⟨_, rfl⟩
          have hdl : dg.length = 3 := by rw [← hdg]; exact Lim.dec_len (by omega)
          have hdc := fun W => digits_any ((100 + p : Nat) : Int) W (by omega) (by omega)
          rw [hdg] at hdc
          simp only [Int.natCast_add, Int.cast_ofNat_Int] at hdc
          have HDC := Lib.hid hdc
          have HDG := Lib.hid hdg
          have HDL := Lib.hid hdl
          have hdl2 : dg.length ≤ 3 := by omega
          clear hqx hqo hqk HQ hdg hdl hdc
          go_wp2_with fail
          refine (HDC.out _).mono ?_
          rintro e w1 ⟨rfl, hb⟩
          have hx1 := ItBox.later HX.out hb
          have HX1 := Lib.hid hx1
          have HB1 := Lib.hid hb
          have hz1 : wr.heap.size ≤ w1.heap.size := hb.size
          obtain ⟨c0, c1, c2, c3, c4⟩ := ItBox.at HX1.out
          have HO1 := Lib.hid (owns_kept (S := fun _ => True) HO.out (Keeps.of_below HB1.out fun _ h _ => h) fun _ _ => trivial)
          have hsum : (⟨dg.toArray⟩ : ByteArray) ++ ⟨(Lim.xs q).toArray⟩ = ⟨(dg ++ Lim.xs q).toArray⟩ := by have := Lim.dec_xs q p; rwa [HDG.out] at this
          clear hb hx1
          go_wp2_with (at_builtin; refine wpList_append_lies _ rfl (.tmp 59) (.tmp 63) 23 rfl W1.heap.size 9 iF _ 1 16 Try.underlying23 hiF hiF0 hiF1 hiF2 rfl (by decide) (.slice a p c) p (wcells ((Lim.wsN q k).take p)) rfl (HO1.out.alloc _) ⟨w1.heap.size, 0, none⟩ 1 1 [.string ⟨(dg ++ Lim.xs q).toArray⟩] rfl rfl (one_news w1 _ rfl _ _) (by simp [Value.oneCell']) (by decide) (by unfold maxLen; omega) (by omega) (by simp; omega) _ rfl ?_; intro g cap w3 hown hgrow hat hlt3; have HO3 := Lib.hid hown; have HK3 := Lib.hid (cp_kept2 HB1.out hgrow); have hx3 : ItBox w3 w.heap.size K [] none 0 0 a p c x := HK3.out.heap HX.out (fun e => by have := (HO.out.lt _ e.symm).1; omega); obtain ⟨g0, g1, g2, g3, g4⟩ := ItBox.at hx3; obtain ⟨f0, f1, f2, f3, f4⟩ := ItBox.free hx3; have HX3 := Lib.hid hx3; clear hx3 hown hgrow c0 c1 c2 c3 c4)
          go_roundw
          case rel => exact ⟨p + 1, by omega, by go_num, Lib.hid (CpL.step (by omega) (by rw [Lim.wsN_len]; exact hlt) (by rw [Lim.wsN_at q hlt, HDG.out]) HK.out HO.out HK3.out HX3.out HO3.out)⟩
          case measure => simp [intOf]; omega
        · obtain rfl : p = k := by omega
          obtain ⟨a, c, hqx, hqo, hqk⟩ := HQ.out
          rw [List.take_of_length_le (by rw [Lim.wsN_len]; exact Nat.le_refl _)] at hqo
          have hbt : ItBox wr (w.heap.size + 1) 1 (Lim.xs q) none 0 0 none 0 0 x := hqk.heap HBT.out (by omega)
          have hbw : Below w.heap.size w wr := HBW.out.trans (hqk.below (n := w.heap.size) (by have := HZ1.out; omega) fun j hj => by omega)
          obtain ⟨a1, c1, e1, hF, -⟩ := wds_of_row (ws := Lim.wsN q p) (by rw [Lim.wsN_len]; exact hqo) (Lim.wsN_ok q (by omega) (by omega))
          rw [Lim.wsN_len] at e1
          injection e1 with e1 _ e3
          subst e1 e3
          have hmt := fun W => may_any 1 x (Lim.xs q) none 0 [] none 0 [] W (fds_nil W) (wds_nil W) (by decide) (by decide)
          rw [Lim.may_t] at hmt
          have hmi := fun W (h : Below wr.heap.size wr W) => may_any K x [] none 0 [] a c (Lim.wsN q p) W (fds_nil W) (hF.later h) (by decide) (by rw [Lim.wsN_len]; omega)
          rw [Lim.may_l K HKK.out q (by omega), Lim.wsN_len] at hmi
          unfold itv at hmt hmi
          simp only [List.length_nil] at hmt hmi
          have hff : Lim.farB x = Lim.farB x := rfl
          obtain ⟨fr, hfr⟩ : ∃ fr, Lim.farB x = fr := ⟨_, rfl⟩
          rw [hfr] at hmt hmi
          have HFR := Lib.hid hfr
          have HX := Lib.hid hqx
          have HBT2 := Lib.hid hbt
          have HBW2 := Lib.hid hbw
          have HMT0 := Lib.hid hmt
          have HMI0 := Lib.hid hmi
          have hqI : (0 : Int) ≤ (q : Int) := by omega
          have hz2 : w.heap.size + 1 < wr.heap.size := hbt.lt
          clear hqx hqo hqk HQ hbt hbw hF hmt hmi hff hfr hlt
          go_upto_region 14 with (fail)
          go_cut [16] (fun f wx => f = .bool fr ∧ wx = wr)
          case first =>
            by_cases h0 : 0 ≤ x
            · by_cases h1 : x ≤ 9007199254740992
              · go_wp2_with fail
                go_meet
                case rel => exact ⟨by rw [← HFR.out]; simp [Lim.farB, h0, h1], rfl⟩
              · go_wp2_with fail
                go_meet
                case rel => exact ⟨by rw [← HFR.out]; simp [Lim.farB, h0, h1], rfl⟩
            · go_wp2_with fail
              go_meet
              case rel => exact ⟨by rw [← HFR.out]; simp [Lim.farB]; omega, rfl⟩
          case rest =>
            obtain ⟨rfl, rfl⟩ := hcut
            clear a7 a8
            obtain ⟨c0, c1, c2, c3, c4⟩ := ItBox.at HX.out
            obtain ⟨d0, d1, d2, d3, d4⟩ := ItBox.at HBT2.out
            by_cases h300 : q ≤ 300
            · skip
              by_cases h297 : q ≤ 297
              · skip
                cases fr
                · skip
                  by_cases p1 : 1 ≤ p
                  · skip
                    by_cases p40 : p ≤ 40
                    · skip
                      have HMT := Lib.hid (cast_may HMT0.out (show _ = false by simp [h300]))
                      have HMI := Lib.hid (cast_mayB HMI0.out (show _ = false by simp [h300, p1, p40, h297]))
                      have i1 : (q : Int) ≤ 300 := by omega
                      have i2 : (1 : Int) ≤ (p : Int) := by omega
                      have i3 : (p : Int) ≤ 40 := by omega
                      have i4 : (q : Int) ≤ 297 := by omega
                      clear h300 p1 p40 h297
                      go_wp2_with fail
                      refine (HMT.out _).mono ?_
                      rintro e w1 ⟨rfl, hb⟩
                      have HX1 := Lib.hid (ItBox.later HX.out hb)
                      have HB1 := Lib.hid hb
                      obtain ⟨k0, k1, k2, k3, k4⟩ := ItBox.at HX1.out
                      clear hb c0 c1 c2 c3 c4 d0 d1 d2 d3 d4
                      go_wp2_with fail
                      refine (HMI.out _ HB1.out).mono ?_
                      rintro e w2 ⟨rfl, hb⟩
                      have HB2 := Lib.hid (HB1.out.trans (hb.mono HB1.out.size))
                      clear hb k0 k1 k2 k3 k4
                      go_wp2_with (go_at_call 9; refine (awake_any _).mono ?_; rintro e w3 ⟨rfl, hb⟩; have HB3 := Lib.hid (HB2.out.trans (hb.mono HB2.out.size)); clear hb)
                      go_ret
                      exact ⟨rfl, HBW2.out.trans (HB3.out.mono (by omega))⟩
                    · skip
                      have HMT := Lib.hid (cast_may HMT0.out (show _ = false by simp [h300]))
                      have HMI := Lib.hid (cast_mayB HMI0.out (show _ = false by simp [h300, p1, p40, h297]))
                      have i1 : (q : Int) ≤ 300 := by omega
                      have i2 : (1 : Int) ≤ (p : Int) := by omega
                      have i3 : (40 : Int) < (p : Int) := by omega
                      have i4 : (q : Int) ≤ 297 := by omega
                      clear h300 p1 p40 h297
                      go_wp2_with fail
                      refine (HMT.out _).mono ?_
                      rintro e w1 ⟨rfl, hb⟩
                      have HX1 := Lib.hid (ItBox.later HX.out hb)
                      have HB1 := Lib.hid hb
                      obtain ⟨k0, k1, k2, k3, k4⟩ := ItBox.at HX1.out
                      clear hb c0 c1 c2 c3 c4 d0 d1 d2 d3 d4
                      go_wp2_with fail
                      refine (HMI.out _ HB1.out).mono ?_
                      rintro e w2 ⟨rfl, hb⟩
                      have HB2 := Lib.hid (HB1.out.trans (hb.mono HB1.out.size))
                      clear hb k0 k1 k2 k3 k4
                      go_wp2_with (go_at_call 9; refine (awake_any _).mono ?_; rintro e w3 ⟨rfl, hb⟩; have HB3 := Lib.hid (HB2.out.trans (hb.mono HB2.out.size)); clear hb)
                      go_ret
                      exact ⟨rfl, HBW2.out.trans (HB3.out.mono (by omega))⟩
                  · skip
                    have p40 : p ≤ 40 := by omega
                    have HMT := Lib.hid (cast_may HMT0.out (show _ = false by simp [h300]))
                    have HMI := Lib.hid (cast_mayB HMI0.out (show _ = false by simp [h300, p1, p40, h297]))
                    have i1 : (q : Int) ≤ 300 := by omega
                    have i2 : (p : Int) < 1 := by omega
                    have i3 : (p : Int) ≤ 40 := by omega
                    have i4 : (q : Int) ≤ 297 := by omega
                    clear h300 p1 p40 h297
                    go_wp2_with fail
                    refine (HMT.out _).mono ?_
                    rintro e w1 ⟨rfl, hb⟩
                    have HX1 := Lib.hid (ItBox.later HX.out hb)
                    have HB1 := Lib.hid hb
                    obtain ⟨k0, k1, k2, k3, k4⟩ := ItBox.at HX1.out
                    clear hb c0 c1 c2 c3 c4 d0 d1 d2 d3 d4
                    go_wp2_with fail
                    refine (HMI.out _ HB1.out).mono ?_
                    rintro e w2 ⟨rfl, hb⟩
                    have HB2 := Lib.hid (HB1.out.trans (hb.mono HB1.out.size))
                    clear hb k0 k1 k2 k3 k4
                    go_wp2_with (go_at_call 9; refine (awake_any _).mono ?_; rintro e w3 ⟨rfl, hb⟩; have HB3 := Lib.hid (HB2.out.trans (hb.mono HB2.out.size)); clear hb)
                    go_ret
                    exact ⟨rfl, HBW2.out.trans (HB3.out.mono (by omega))⟩
                · skip
                  by_cases p1 : 1 ≤ p
                  · skip
                    by_cases p40 : p ≤ 40
                    · skip
                      have HMT := Lib.hid (cast_may HMT0.out (show _ = true by simp [h300]))
                      have HMI := Lib.hid (cast_mayB HMI0.out (show _ = true by simp [h300, p1, p40, h297]))
                      have i1 : (q : Int) ≤ 300 := by omega
                      have i2 : (1 : Int) ≤ (p : Int) := by omega
                      have i3 : (p : Int) ≤ 40 := by omega
                      have i4 : (q : Int) ≤ 297 := by omega
                      clear h300 p1 p40 h297
                      go_wp2_with fail
                      refine (HMT.out _).mono ?_
                      rintro e w1 ⟨rfl, hb⟩
                      have HX1 := Lib.hid (ItBox.later HX.out hb)
                      have HB1 := Lib.hid hb
                      obtain ⟨k0, k1, k2, k3, k4⟩ := ItBox.at HX1.out
                      clear hb c0 c1 c2 c3 c4 d0 d1 d2 d3 d4
                      go_wp2_with fail
                      refine (HMI.out _ HB1.out).mono ?_
                      rintro e w2 ⟨rfl, hb⟩
                      have HB2 := Lib.hid (HB1.out.trans (hb.mono HB1.out.size))
                      clear hb k0 k1 k2 k3 k4
                      go_wp2_with (go_at_call 9; refine (awake_any _).mono ?_; rintro e w3 ⟨rfl, hb⟩; have HB3 := Lib.hid (HB2.out.trans (hb.mono HB2.out.size)); clear hb)
                      go_ret
                      exact ⟨rfl, HBW2.out.trans (HB3.out.mono (by omega))⟩
                    · skip
                      have HMT := Lib.hid (cast_may HMT0.out (show _ = true by simp [h300]))
                      have HMI := Lib.hid (cast_mayB HMI0.out (show _ = false by simp [h300, p1, p40, h297]))
                      have i1 : (q : Int) ≤ 300 := by omega
                      have i2 : (1 : Int) ≤ (p : Int) := by omega
                      have i3 : (40 : Int) < (p : Int) := by omega
                      have i4 : (q : Int) ≤ 297 := by omega
                      clear h300 p1 p40 h297
                      go_wp2_with fail
                      refine (HMT.out _).mono ?_
                      rintro e w1 ⟨rfl, hb⟩
                      have HX1 := Lib.hid (ItBox.later HX.out hb)
                      have HB1 := Lib.hid hb
                      obtain ⟨k0, k1, k2, k3, k4⟩ := ItBox.at HX1.out
                      clear hb c0 c1 c2 c3 c4 d0 d1 d2 d3 d4
                      go_wp2_with fail
                      refine (HMI.out _ HB1.out).mono ?_
                      rintro e w2 ⟨rfl, hb⟩
                      have HB2 := Lib.hid (HB1.out.trans (hb.mono HB1.out.size))
                      clear hb k0 k1 k2 k3 k4
                      go_wp2_with (go_at_call 9; refine (awake_any _).mono ?_; rintro e w3 ⟨rfl, hb⟩; have HB3 := Lib.hid (HB2.out.trans (hb.mono HB2.out.size)); clear hb)
                      go_ret
                      exact ⟨rfl, HBW2.out.trans (HB3.out.mono (by omega))⟩
                  · skip
                    have p40 : p ≤ 40 := by omega
                    have HMT := Lib.hid (cast_may HMT0.out (show _ = true by simp [h300]))
                    have HMI := Lib.hid (cast_mayB HMI0.out (show _ = false by simp [h300, p1, p40, h297]))
                    have i1 : (q : Int) ≤ 300 := by omega
                    have i2 : (p : Int) < 1 := by omega
                    have i3 : (p : Int) ≤ 40 := by omega
                    have i4 : (q : Int) ≤ 297 := by omega
                    clear h300 p1 p40 h297
                    go_wp2_with fail
                    refine (HMT.out _).mono ?_
                    rintro e w1 ⟨rfl, hb⟩
                    have HX1 := Lib.hid (ItBox.later HX.out hb)
                    have HB1 := Lib.hid hb
                    obtain ⟨k0, k1, k2, k3, k4⟩ := ItBox.at HX1.out
                    clear hb c0 c1 c2 c3 c4 d0 d1 d2 d3 d4
                    go_wp2_with fail
                    refine (HMI.out _ HB1.out).mono ?_
                    rintro e w2 ⟨rfl, hb⟩
                    have HB2 := Lib.hid (HB1.out.trans (hb.mono HB1.out.size))
                    clear hb k0 k1 k2 k3 k4
                    go_wp2_with (go_at_call 9; refine (awake_any _).mono ?_; rintro e w3 ⟨rfl, hb⟩; have HB3 := Lib.hid (HB2.out.trans (hb.mono HB2.out.size)); clear hb)
                    go_ret
                    exact ⟨rfl, HBW2.out.trans (HB3.out.mono (by omega))⟩
              · skip
                cases fr
                · skip
                  by_cases p1 : 1 ≤ p
                  · skip
                    by_cases p40 : p ≤ 40
                    · skip
                      have HMT := Lib.hid (cast_may HMT0.out (show _ = false by simp [h300]))
                      have HMI := Lib.hid (cast_mayB HMI0.out (show _ = false by simp [h300, p1, p40, h297]))
                      have i1 : (q : Int) ≤ 300 := by omega
                      have i2 : (1 : Int) ≤ (p : Int) := by omega
                      have i3 : (p : Int) ≤ 40 := by omega
                      have i4 : (297 : Int) < (q : Int) := by omega
                      clear h300 p1 p40 h297
                      go_wp2_with fail
                      refine (HMT.out _).mono ?_
                      rintro e w1 ⟨rfl, hb⟩
                      have HX1 := Lib.hid (ItBox.later HX.out hb)
                      have HB1 := Lib.hid hb
                      obtain ⟨k0, k1, k2, k3, k4⟩ := ItBox.at HX1.out
                      clear hb c0 c1 c2 c3 c4 d0 d1 d2 d3 d4
                      go_wp2_with fail
                      refine (HMI.out _ HB1.out).mono ?_
                      rintro e w2 ⟨rfl, hb⟩
                      have HB2 := Lib.hid (HB1.out.trans (hb.mono HB1.out.size))
                      clear hb k0 k1 k2 k3 k4
                      go_wp2_with (go_at_call 9; refine (awake_any _).mono ?_; rintro e w3 ⟨rfl, hb⟩; have HB3 := Lib.hid (HB2.out.trans (hb.mono HB2.out.size)); clear hb)
                      go_ret
                      exact ⟨rfl, HBW2.out.trans (HB3.out.mono (by omega))⟩
                    · skip
                      have HMT := Lib.hid (cast_may HMT0.out (show _ = false by simp [h300]))
                      have HMI := Lib.hid (cast_mayB HMI0.out (show _ = false by simp [h300, p1, p40, h297]))
                      have i1 : (q : Int) ≤ 300 := by omega
                      have i2 : (1 : Int) ≤ (p : Int) := by omega
                      have i3 : (40 : Int) < (p : Int) := by omega
                      have i4 : (297 : Int) < (q : Int) := by omega
                      clear h300 p1 p40 h297
                      go_wp2_with fail
                      refine (HMT.out _).mono ?_
                      rintro e w1 ⟨rfl, hb⟩
                      have HX1 := Lib.hid (ItBox.later HX.out hb)
                      have HB1 := Lib.hid hb
                      obtain ⟨k0, k1, k2, k3, k4⟩ := ItBox.at HX1.out
                      clear hb c0 c1 c2 c3 c4 d0 d1 d2 d3 d4
                      go_wp2_with fail
                      refine (HMI.out _ HB1.out).mono ?_
                      rintro e w2 ⟨rfl, hb⟩
                      have HB2 := Lib.hid (HB1.out.trans (hb.mono HB1.out.size))
                      clear hb k0 k1 k2 k3 k4
                      go_wp2_with (go_at_call 9; refine (awake_any _).mono ?_; rintro e w3 ⟨rfl, hb⟩; have HB3 := Lib.hid (HB2.out.trans (hb.mono HB2.out.size)); clear hb)
                      go_ret
                      exact ⟨rfl, HBW2.out.trans (HB3.out.mono (by omega))⟩
                  · skip
                    have p40 : p ≤ 40 := by omega
                    have HMT := Lib.hid (cast_may HMT0.out (show _ = false by simp [h300]))
                    have HMI := Lib.hid (cast_mayB HMI0.out (show _ = false by simp [h300, p1, p40, h297]))
                    have i1 : (q : Int) ≤ 300 := by omega
                    have i2 : (p : Int) < 1 := by omega
                    have i3 : (p : Int) ≤ 40 := by omega
                    have i4 : (297 : Int) < (q : Int) := by omega
                    clear h300 p1 p40 h297
                    go_wp2_with fail
                    refine (HMT.out _).mono ?_
                    rintro e w1 ⟨rfl, hb⟩
                    have HX1 := Lib.hid (ItBox.later HX.out hb)
                    have HB1 := Lib.hid hb
                    obtain ⟨k0, k1, k2, k3, k4⟩ := ItBox.at HX1.out
                    clear hb c0 c1 c2 c3 c4 d0 d1 d2 d3 d4
                    go_wp2_with fail
                    refine (HMI.out _ HB1.out).mono ?_
                    rintro e w2 ⟨rfl, hb⟩
                    have HB2 := Lib.hid (HB1.out.trans (hb.mono HB1.out.size))
                    clear hb k0 k1 k2 k3 k4
                    go_wp2_with (go_at_call 9; refine (awake_any _).mono ?_; rintro e w3 ⟨rfl, hb⟩; have HB3 := Lib.hid (HB2.out.trans (hb.mono HB2.out.size)); clear hb)
                    go_ret
                    exact ⟨rfl, HBW2.out.trans (HB3.out.mono (by omega))⟩
                · skip
                  by_cases p1 : 1 ≤ p
                  · skip
                    by_cases p40 : p ≤ 40
                    · skip
                      have HMT := Lib.hid (cast_may HMT0.out (show _ = true by simp [h300]))
                      have HMI := Lib.hid (cast_mayB HMI0.out (show _ = false by simp [h300, p1, p40, h297]))
                      have i1 : (q : Int) ≤ 300 := by omega
                      have i2 : (1 : Int) ≤ (p : Int) := by omega
                      have i3 : (p : Int) ≤ 40 := by omega
                      have i4 : (297 : Int) < (q : Int) := by omega
                      clear h300 p1 p40 h297
                      go_wp2_with fail
                      refine (HMT.out _).mono ?_
                      rintro e w1 ⟨rfl, hb⟩
                      have HX1 := Lib.hid (ItBox.later HX.out hb)
                      have HB1 := Lib.hid hb
                      obtain ⟨k0, k1, k2, k3, k4⟩ := ItBox.at HX1.out
                      clear hb c0 c1 c2 c3 c4 d0 d1 d2 d3 d4
                      go_wp2_with fail
                      refine (HMI.out _ HB1.out).mono ?_
                      rintro e w2 ⟨rfl, hb⟩
                      have HB2 := Lib.hid (HB1.out.trans (hb.mono HB1.out.size))
                      clear hb k0 k1 k2 k3 k4
                      go_wp2_with (go_at_call 9; refine (awake_any _).mono ?_; rintro e w3 ⟨rfl, hb⟩; have HB3 := Lib.hid (HB2.out.trans (hb.mono HB2.out.size)); clear hb)
                      go_ret
                      exact ⟨rfl, HBW2.out.trans (HB3.out.mono (by omega))⟩
                    · skip
                      have HMT := Lib.hid (cast_may HMT0.out (show _ = true by simp [h300]))
                      have HMI := Lib.hid (cast_mayB HMI0.out (show _ = false by simp [h300, p1, p40, h297]))
                      have i1 : (q : Int) ≤ 300 := by omega
                      have i2 : (1 : Int) ≤ (p : Int) := by omega
                      have i3 : (40 : Int) < (p : Int) := by omega
                      have i4 : (297 : Int) < (q : Int) := by omega
                      clear h300 p1 p40 h297
                      go_wp2_with fail
                      refine (HMT.out _).mono ?_
                      rintro e w1 ⟨rfl, hb⟩
                      have HX1 := Lib.hid (ItBox.later HX.out hb)
                      have HB1 := Lib.hid hb
                      obtain ⟨k0, k1, k2, k3, k4⟩ := ItBox.at HX1.out
                      clear hb c0 c1 c2 c3 c4 d0 d1 d2 d3 d4
                      go_wp2_with fail
                      refine (HMI.out _ HB1.out).mono ?_
                      rintro e w2 ⟨rfl, hb⟩
                      have HB2 := Lib.hid (HB1.out.trans (hb.mono HB1.out.size))
                      clear hb k0 k1 k2 k3 k4
                      go_wp2_with (go_at_call 9; refine (awake_any _).mono ?_; rintro e w3 ⟨rfl, hb⟩; have HB3 := Lib.hid (HB2.out.trans (hb.mono HB2.out.size)); clear hb)
                      go_ret
                      exact ⟨rfl, HBW2.out.trans (HB3.out.mono (by omega))⟩
                  · skip
                    have p40 : p ≤ 40 := by omega
                    have HMT := Lib.hid (cast_may HMT0.out (show _ = true by simp [h300]))
                    have HMI := Lib.hid (cast_mayB HMI0.out (show _ = false by simp [h300, p1, p40, h297]))
                    have i1 : (q : Int) ≤ 300 := by omega
                    have i2 : (p : Int) < 1 := by omega
                    have i3 : (p : Int) ≤ 40 := by omega
                    have i4 : (297 : Int) < (q : Int) := by omega
                    clear h300 p1 p40 h297
                    go_wp2_with fail
                    refine (HMT.out _).mono ?_
                    rintro e w1 ⟨rfl, hb⟩
                    have HX1 := Lib.hid (ItBox.later HX.out hb)
                    have HB1 := Lib.hid hb
                    obtain ⟨k0, k1, k2, k3, k4⟩ := ItBox.at HX1.out
                    clear hb c0 c1 c2 c3 c4 d0 d1 d2 d3 d4
                    go_wp2_with fail
                    refine (HMI.out _ HB1.out).mono ?_
                    rintro e w2 ⟨rfl, hb⟩
                    have HB2 := Lib.hid (HB1.out.trans (hb.mono HB1.out.size))
                    clear hb k0 k1 k2 k3 k4
                    go_wp2_with (go_at_call 9; refine (awake_any _).mono ?_; rintro e w3 ⟨rfl, hb⟩; have HB3 := Lib.hid (HB2.out.trans (hb.mono HB2.out.size)); clear hb)
                    go_ret
                    exact ⟨rfl, HBW2.out.trans (HB3.out.mono (by omega))⟩
            · skip
              have h297 : ¬ q ≤ 297 := by omega
              by_cases p1 : 1 ≤ p
              · skip
                by_cases p40 : p ≤ 40
                · skip
                  have HMT := Lib.hid (cast_may HMT0.out (show _ = false by simp [h300]))
                  have HMI := Lib.hid (cast_mayB HMI0.out (show _ = false by simp [h300, p1, p40, h297]))
                  have i1 : (300 : Int) < (q : Int) := by omega
                  have i2 : (1 : Int) ≤ (p : Int) := by omega
                  have i3 : (p : Int) ≤ 40 := by omega
                  have i4 : (297 : Int) < (q : Int) := by omega
                  clear h300 p1 p40 h297
                  go_wp2_with fail
                  refine (HMT.out _).mono ?_
                  rintro e w1 ⟨rfl, hb⟩
                  have HX1 := Lib.hid (ItBox.later HX.out hb)
                  have HB1 := Lib.hid hb
                  obtain ⟨k0, k1, k2, k3, k4⟩ := ItBox.at HX1.out
                  clear hb c0 c1 c2 c3 c4 d0 d1 d2 d3 d4
                  go_wp2_with fail
                  refine (HMI.out _ HB1.out).mono ?_
                  rintro e w2 ⟨rfl, hb⟩
                  have HB2 := Lib.hid (HB1.out.trans (hb.mono HB1.out.size))
                  clear hb k0 k1 k2 k3 k4
                  go_wp2_with (go_at_call 9; refine (awake_any _).mono ?_; rintro e w3 ⟨rfl, hb⟩; have HB3 := Lib.hid (HB2.out.trans (hb.mono HB2.out.size)); clear hb)
                  go_ret
                  exact ⟨rfl, HBW2.out.trans (HB3.out.mono (by omega))⟩
                · skip
                  have HMT := Lib.hid (cast_may HMT0.out (show _ = false by simp [h300]))
                  have HMI := Lib.hid (cast_mayB HMI0.out (show _ = false by simp [h300, p1, p40, h297]))
                  have i1 : (300 : Int) < (q : Int) := by omega
                  have i2 : (1 : Int) ≤ (p : Int) := by omega
                  have i3 : (40 : Int) < (p : Int) := by omega
                  have i4 : (297 : Int) < (q : Int) := by omega
                  clear h300 p1 p40 h297
                  go_wp2_with fail
                  refine (HMT.out _).mono ?_
                  rintro e w1 ⟨rfl, hb⟩
                  have HX1 := Lib.hid (ItBox.later HX.out hb)
                  have HB1 := Lib.hid hb
                  obtain ⟨k0, k1, k2, k3, k4⟩ := ItBox.at HX1.out
                  clear hb c0 c1 c2 c3 c4 d0 d1 d2 d3 d4
                  go_wp2_with fail
                  refine (HMI.out _ HB1.out).mono ?_
                  rintro e w2 ⟨rfl, hb⟩
                  have HB2 := Lib.hid (HB1.out.trans (hb.mono HB1.out.size))
                  clear hb k0 k1 k2 k3 k4
                  go_wp2_with (go_at_call 9; refine (awake_any _).mono ?_; rintro e w3 ⟨rfl, hb⟩; have HB3 := Lib.hid (HB2.out.trans (hb.mono HB2.out.size)); clear hb)
                  go_ret
                  exact ⟨rfl, HBW2.out.trans (HB3.out.mono (by omega))⟩
              · skip
                have p40 : p ≤ 40 := by omega
                have HMT := Lib.hid (cast_may HMT0.out (show _ = false by simp [h300]))
                have HMI := Lib.hid (cast_mayB HMI0.out (show _ = false by simp [h300, p1, p40, h297]))
                have i1 : (300 : Int) < (q : Int) := by omega
                have i2 : (p : Int) < 1 := by omega
                have i3 : (p : Int) ≤ 40 := by omega
                have i4 : (297 : Int) < (q : Int) := by omega
                clear h300 p1 p40 h297
                go_wp2_with fail
                refine (HMT.out _).mono ?_
                rintro e w1 ⟨rfl, hb⟩
                have HX1 := Lib.hid (ItBox.later HX.out hb)
                have HB1 := Lib.hid hb
                obtain ⟨k0, k1, k2, k3, k4⟩ := ItBox.at HX1.out
                clear hb c0 c1 c2 c3 c4 d0 d1 d2 d3 d4
                go_wp2_with fail
                refine (HMI.out _ HB1.out).mono ?_
                rintro e w2 ⟨rfl, hb⟩
                have HB2 := Lib.hid (HB1.out.trans (hb.mono HB1.out.size))
                clear hb k0 k1 k2 k3 k4
                go_wp2_with (go_at_call 9; refine (awake_any _).mono ?_; rintro e w3 ⟨rfl, hb⟩; have HB3 := Lib.hid (HB2.out.trans (hb.mono HB2.out.size)); clear hb)
                go_ret
                exact ⟨rfl, HBW2.out.trans (HB3.out.mono (by omega))⟩
end Go.Proofs.Ytdnonginlbjcoaa
