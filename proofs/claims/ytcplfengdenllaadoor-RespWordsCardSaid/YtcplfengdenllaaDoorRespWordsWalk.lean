/- The walk of the law RespWords. -/
import Derived.Test.YtcplfengdenllaaDoorRpWords
import Derived.BigQuiet
import Derived.Deep.QuietTactic
namespace Go.Proofs.YtcplfengdenllaaDoor
open Go.RowKit Go.Shelf
attribute [local go_sem] Oper.semAt_some
set_option linter.unusedVariables false
set_option linter.unusedSimpArgs false

theorem words_encL : ∀ (ws : List (List UInt8)), (∀ s ∈ ws, s.length ≤ 300) → (Rp.encL (ws.map fun s => Rp.R.mk 4 s 0 [])).length ≤ 400 * ws.length
  | [], _ => by simp [Rp.encL]
  | s :: ws, h => by
    have h1 := words_encL ws fun t ht => h t (by simp [ht])
    have h2 := h s (by simp)
    have h3 := dec_len20 (n := s.length) (by omega) (by omega)
    rw [List.map_cons]
    unfold Rp.encL Rp.enc
    simp [Rp.own, Rp.crlf, Rp.encL]
    omega

theorem words_len {ws : List (List UInt8)} (hl : ws.length ≤ 50) (h : ∀ s ∈ ws, s.length ≤ 300) : (Rp.enc (wordsR ws)).length ≤ 1000000 := by
  have h1 := words_encL ws h
  have h3 := dec_len20 (n := ws.length) (by omega) (by omega)
  unfold wordsR Rp.enc
  simp [Rp.own, Rp.crlf]
  omega

theorem words_get {ws : List (List UInt8)} (hl : ws.length ≤ 50) (h : ∀ s ∈ ws, s.length ≤ 300) : getO (Rp.enc (wordsR ws)) 0 = .ok (wordsR ws) [] := by
  have h := Rp.get_put (r := wordsR ws) (words_may (by omega) fun s hs => by have := h s hs; omega) (fun p hp => by
    rw [words_all] at hp
    simp at hp
    rcases hp with rfl | ⟨s, _, rfl⟩ <;> (unfold Rp.NumOk; simp)) []
  rw [List.append_nil] at h
  unfold getO
  rw [if_neg (by omega)]
  exact h

theorem below_drewN {B : Nat} {a w : World} (h : Below B a w) (n : Nat) : Below B a (w.drewN n) := ⟨h.os, h.tape, h.output, h.size, h.block⟩

/-- the words that were read. -/
def Wr (W : World) (a : Option Addr) (ws : List (List UInt8)) : Prop := ws = [] ∨ ∃ b off, a = some ⟨b, off, none⟩ ∧ b < W.heap.size ∧ ∀ j, j < ws.length → W.cell? ⟨b, off + j * 4, none⟩ = some (.int .i64 4) ∧ W.cell? ⟨b, off + j * 4 + 1, none⟩ = some (.string ⟨(ws.getD j []).toArray⟩)

theorem Wr.later {w w' : World} {a : Option Addr} {ws : List (List UInt8)} (h : Wr w a ws) (hb : Below w.heap.size w w') : Wr w' a ws := by
  rcases h with h | ⟨b, off, ha, hlt, hc⟩
  · exact .inl h
  · exact .inr ⟨b, off, ha, Nat.lt_of_lt_of_le hlt hb.size, fun k hk => by rw [hb.cell (p := ⟨b, off + k * 4, none⟩) hlt, hb.cell (p := ⟨b, off + k * 4 + 1, none⟩) hlt]; exact hc k hk⟩

theorem words_rep {S : Nat → Prop} {W : World} {ws : List (List UInt8)} {k m : Int} {s : ByteArray} {a : Option Addr} {l cap : Nat} (h : Rep S W (wordsR ws) (.agg #[.int .i64 k, .string s, .int .i64 m, .slice a l cap])) :
    k = 6 ∧ l = ws.length ∧ ws.length ≤ cap ∧ cap ≤ 9223372036854775807 ∧ Wr W a ws := by
  obtain ⟨a', cap', hv, hf, hl⟩ := h.parts
  unfold rv at hv
  simp only [wordsR, Rp.R.k, Rp.R.s, Rp.R.n, Rp.R.l, Value.agg.injEq, Array.mk.injEq, List.cons.injEq, and_true, Value.int.injEq, true_and, Value.string.injEq, Value.slice.injEq, List.length_map] at hv
  obtain ⟨rfl, -, -, rfl, rfl, rfl⟩ := hv
  unfold Fit at hf
  simp only [wordsR, Rp.R.l, List.length_map] at hf
  refine ⟨rfl, rfl, by omega, by omega, ?_⟩
  rcases hl with hl | ⟨b, off, rfl, _, hlt, hr⟩
  · left
    simpa [wordsR, Rp.R.l] using hl
  · right
    refine ⟨b, off, rfl, hlt, fun j hj => ?_⟩
    obtain ⟨v0, v1, v2, v3, c0, c1, c2, c3, hrep⟩ := hr.get j (by simp [wordsR, Rp.R.l, hj])
    obtain ⟨a2, cap2, hv2, _⟩ := hrep.parts
    unfold rv at hv2
    simp only [wordsR, Rp.R.k, Rp.R.s, Rp.R.n, Rp.R.l, Value.agg.injEq, Array.mk.injEq, List.cons.injEq, and_true, List.getElem_map] at hv2
    obtain ⟨rfl, rfl, -, -⟩ := hv2
    refine ⟨c0, ?_⟩
    rw [c1]
    simp [List.getD, hj]

set_option maxRecDepth 100000 in
set_option maxHeartbeats 8000000 in
theorem respWords_go (a : Option Addr) (cap : Nat) (ws : List (List UInt8)) (w : World) (hlen : ws.length ≤ 9223372036854775807) (hw : Wl w a cap ws) (henv : Env w) :
    Calls Tryd.prog 6 #[.slice a ws.length cap] w fun e w' => e = .returned (.bool true) ∧ Below w.heap.size w w' := by
  have HW := Lib.hid hw
  have HENV := Lib.hid henv
  have hcc := hw.1
  have hcm := hw.2.1
  clear hw henv
  by_cases h50 : 50 < ws.length
  · have h50I : (50 : Int) < (ws.length : Int) := by omega
    go_enter Tryd.func6, Tryd.ntmps6
    go_wp2_with fail
    refine (awake_any w HENV.out).mono ?_
    rintro e w1 ⟨rfl, hb⟩
    go_wp2
    go_ret
    exact ⟨rfl, hb⟩
  have h50I : ¬ (50 : Int) < (ws.length : Int) := by omega
  go_enter Tryd.func6, Tryd.ntmps6
  go_upto_region 4 with (fail)
  go_loop [3] (fun i => ∃ m : Nat, m ≤ ws.length ∧ i = .int .i64 (m : Int) ∧ Hid (∀ j, j < m → (ws.getD j []).length ≤ 300)) (fun i => ws.length - (intOf i).toNat)
  case atStart => exact ⟨0, Nat.zero_le _, rfl, Lib.hid fun j hj => by omega⟩
  case round =>
    obtain ⟨m, hm, rfl, HM⟩ := hrel
    by_cases hlt : m < ws.length
    · obtain ⟨b, off, rfl, hb, hc⟩ := HW.out.2.2.2.resolve_left (by rintro rfl; simp at hlt)
      have c1 := hc m hlt
      have hsl : (ws.getD m []).length ≤ 9223372036854775807 := HW.out.2.2.1 _ (by simp [List.getD, hlt])
      clear hc
      have hltI : (m : Int) < (ws.length : Int) := by omega
      have ewn : IntKind.i64.wrap ((m : Int) + 1) = (m : Int) + 1 := IntWalk.i64_in _ (by omega)
      by_cases h3 : 300 < (ws.getD m []).length
      · generalize ws.getD m [] = x at *
        have h3I : (300 : Int) < (x.length : Int) := by omega
        go_wp2_with fail
        refine (awake_any w HENV.out).mono ?_
        rintro e w1 ⟨rfl, hb⟩
        go_wp2
        go_ret
        exact ⟨rfl, hb⟩
      · have HM2 : Hid (∀ j, j < m + 1 → (ws.getD j []).length ≤ 300) := Lib.hid fun j hj => by
          by_cases e : j = m
          · subst e; omega
          · exact HM.out j (by omega)
        generalize ws.getD m [] = x at *
        have h3I : ¬ (300 : Int) < (x.length : Int) := by omega
        go_wp2
        go_round
        case rel => exact ⟨m + 1, by omega, by go_num, HM2⟩
        case measure => simp [intOf]; omega
    · obtain rfl : m = ws.length := by omega
      have hs : ∀ s ∈ ws, s.length ≤ 300 := fun s hs => by
        obtain ⟨j, hj, rfl⟩ := List.getElem_of_mem hs
        have := HM.out j hj
        simpa [List.getD, hj] using this
      have hel := words_len (by omega) hs
      have hgt := words_get (by omega) hs
      have hwd := words_any ws a cap w (by omega) (fun s h => by have := hs s h; omega) HW.out HENV.out
      generalize Rp.enc (wordsR ws) = B at *
      have HWD := Lib.hid hwd
      have HGT := Lib.hid hgt
      clear hwd hgt hs HM
      go_wp2_with fail
      refine HWD.out.mono ?_
      rintro e w1 ⟨v, rfl, hbuf, hb1⟩
      obtain ⟨a1, cap1, rfl, hbt⟩ := hbuf.bt
      have hgv := get_any B 0 a1 cap1 w1 hel (by decide) (by decide) hbt (HENV.out.later hb1)
      rw [HGT.out] at hgv
      have HGV := Lib.hid hgv
      have HB1 := Lib.hid hb1
      clear hgv hbuf hbt hb1 HWD HGT
      go_wp2_with fail
      refine HGV.out.mono ?_
      rintro e w2 ⟨hb2, k, s, n, a2, l, cap2, rfl, hrep⟩
      obtain ⟨rfl, rfl, hc2, hc3, hwr⟩ := words_rep hrep
      have HB2 := Lib.hid (HB1.out.trans (hb2.mono HB1.out.size))
      clear hrep hb2 HGV
      have hn0 : ((B.length : Int) - (([] : List UInt8).length : Int)) = (B.length : Int) := by simp
      rw [hn0]
      clear hn0
      go_upto_region 10 with (fail)
      obtain ⟨w3, hw3⟩ : ∃ w3, w2.alloc (.cells #[.int .i64 6, .string s, .int .i64 n, .slice a2 ws.length cap2] 24) = w3 := ⟨_, rfl⟩
      have hx3 := World.alloc_heap_new w2 (.cells #[.int .i64 6, .string s, .int .i64 n, .slice a2 ws.length cap2] 24)
      have hb3 : Below w2.heap.size w2 w3 := by rw [← hw3]; exact (Below.refl _ w2).alloc (Nat.le_refl _) _
      rw [hw3] at hx3 ⊢
      obtain ⟨b0, b1, b2, b3⟩ := cells_four hx3
      have HWR := Lib.hid (hwr.later hb3)
      have HB3 := Lib.hid (HB2.out.trans (hb3.mono HB2.out.size))
      clear hw3 hb3 hwr HB1 HB2
      have hBI : (B.length : Int) ≤ 1000000 := by omega
      go_wp2_with fail
      refine (num_law _ _).mono ?_
      rintro e w4 ⟨rfl, rfl⟩
      go_upto_region 13 with (fail)
      have hcI : (ws.length : Int) ≤ (cap2 : Int) := by omega
      have HX3 := Lib.hid hx3
      clear hx3 b0 b1 b2 b3
      go_loopw [8] (fun i wr => ∃ m : Nat, m ≤ ws.length ∧ i = .int .i64 (m : Int) ∧ Hid (Below w3.heap.size w3 wr)) (fun i _ => ws.length - (intOf i).toNat)
      case atStart => exact ⟨0, Nat.zero_le _, rfl, Lib.hid (Below.refl _ _)⟩
      case round =>
        obtain ⟨m, hm, rfl, HK⟩ := hrel
        by_cases hlt : m < ws.length
        · obtain ⟨b, off, rfl, hb, hc⟩ := HW.out.2.2.2.resolve_left (by rintro rfl; simp at hlt)
          have c1 := (HK.out.cell (p := ⟨b, off + m, none⟩) (Nat.lt_of_lt_of_le hb HB3.out.size)).trans ((HB3.out.cell (p := ⟨b, off + m, none⟩) hb).trans (hc m hlt))
          obtain ⟨g, og, rfl, hg, hd⟩ := HWR.out.resolve_left (by rintro rfl; simp at hlt)
          obtain ⟨d0, d1⟩ := hd m hlt
          have d0 := (HK.out.cell (p := ⟨g, og + m * 4, none⟩) hg).trans d0
          have d1 := (HK.out.cell (p := ⟨g, og + m * 4 + 1, none⟩) hg).trans d1
          have hx4 := (HK.out.block w2.heap.size (Array.getElem?_eq_some_iff.1 HX3.out).1).trans HX3.out
          obtain ⟨b0, b1, b2, b3⟩ := cells_four hx4
          clear hc hd hb hg hx4
          have k0 : (0 : Int) ≤ (m : Int) := by omega
          have k1 : (m : Int) < (ws.length : Int) := by omega
          have kT : ((m : Int)).toNat = m := by omega
          have ewn : IntKind.i64.wrap ((m : Int) + 1) = (m : Int) + 1 := IntWalk.i64_in _ (by omega)
          generalize ws.getD m [] = x at *
          have hne : (x != x) = false := by simp
          have hne2 : (x == x) = true := by simp
          go_wp2
          go_quiet (fail)
          go_wp2
          go_roundw
          case rel => exact ⟨m + 1, by omega, by go_num, Lib.hid (below_drewN HK.out _)⟩
          case measure => simp [intOf]; omega
        · obtain rfl : m = ws.length := by omega
          have HB4 := Lib.hid (HB3.out.trans (HK.out.mono HB3.out.size))
          go_wp2_with fail
          refine (awake_any wr (HENV.out.below HB4.out HENV.out.size)).mono ?_
          rintro e w5 ⟨rfl, hb⟩
          go_wp2
          go_ret
          exact ⟨rfl, HB4.out.trans (hb.mono HB4.out.size)⟩
end Go.Proofs.YtcplfengdenllaaDoor
