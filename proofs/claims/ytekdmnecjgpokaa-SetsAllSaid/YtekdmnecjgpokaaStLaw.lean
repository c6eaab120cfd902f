/- The contracts of the statements' own awake, great and set. -/
import Derived.Test.YtekdmnecjgpokaaStBoth
import Derived.Test.YtekdmnecjgpokaaLsOpen
import Derived.BigQuiet
import Derived.LoopTactic
namespace Go.Proofs.Ytekdmnecjgpokaa
open Go.RowKit Go.Shelf
set_option linter.unusedVariables false
set_option linter.unusedSimpArgs false

theorem conv1 (w : World) (x : Int) :
    (convert 35 9 (.slice (some ⟨w.heap.size, 0, none⟩) 1 1)).run Try.prog (w.alloc (.cells #[.int .u8 x] 5)) = .ok (.string ⟨#[UInt8.ofNat x.toNat]⟩) (w.alloc (.cells #[.int .u8 x] 5)) := by
  rw [run_convert_bytes_string _ _ _ _ _ _ _ Try.underlying35 Try.underlying5 Try.underlying9]
  have hl := run_loadCells_list (P := Try.prog) (w.alloc (.cells #[.int .u8 x] 5)) ⟨w.heap.size, 0, none⟩ ([x].map (Value.int .u8)) (fun j v hj => by
    match j, hj with
    | 0, hj =>
      simp at hj
      subst hj
      simp [Addr.add])
  simp only [List.length_map, List.length_cons, List.length_nil] at hl
  rw [run_bytesToString _ _ _ _ [x] hl]
  rfl

theorem wss_nil (w : World) (a : Option Addr) (c : Nat) (hc : c ≤ 9223372036854775807) : Wss w a c [] := ⟨Nat.zero_le _, hc, .inl rfl⟩
theorem setsIn_nil : SetsIn [] := ⟨by simp, by simp, by simp⟩

set_option maxRecDepth 100000 in
set_option maxHeartbeats 4000000 in
theorem awake_any (w : World) : Calls Try.prog 7 #[] w fun e W' => e = .returned (.bool true) ∧ Below w.heap.size w W' := by
  have ho := callsIn_wide.1 (of_any (some ⟨w.heap.size, 0, none⟩) 3 [[98], [97], [98]] (w.alloc (.cells #[.string ⟨#[98]⟩, .string ⟨#[97]⟩, .string ⟨#[98]⟩] 9)) (wds_new w [[98], [97], [98]] (by decide) (by decide)) (by decide) (by unfold OkW; decide))
  rw [show St.ofS [[98], [97], [98]] = [[97], [98]] by decide] at ho
  have HO := Lib.hid ho
  have HU := Lib.hid (fun W => Union_any [] none 0 W (wss_nil W none 0 (by decide)) setsIn_nil (by decide))
  clear ho
  go_enter Try.func7, Try.ntmps7
  go_wp2_with fail
  refine HO.out.mono ?_
  rintro e w1 ⟨u, rfl, hr⟩
  obtain ⟨a2, c2, rfl, hw⟩ := hr.words (by decide)
  have HB1 := Lib.hid (((Below.refl w.heap.size w).alloc (Nat.le_refl _) (.cells #[.string ⟨#[98]⟩, .string ⟨#[97]⟩, .string ⟨#[98]⟩] 9)).trans (hr.2.mono (by simp)))
  obtain ⟨b, off, rfl, hb, hc⟩ := hw.get (by decide)
  have c0 := hc 0 (by decide)
  have cc1 := hc 1 (by decide)
  have hcap := hw.1
  simp at c0 cc1
  have C0 := Lib.hid c0
  have C1 := Lib.hid cc1
  clear hr hw hc c0 cc1
  go_wp2_with fail
  refine (HU.out w1).mono ?_
  rintro e w2 ⟨u2, rfl, hr⟩
  obtain ⟨a3, c3, rfl, hw3⟩ := hr.words (by decide)
  have c0 := (hr.2.cell (p := ⟨b, off, none⟩) hb).trans C0.out
  have cc1 := (hr.2.cell (p := ⟨b, off + 1, none⟩) hb).trans C1.out
  have HB2 := Lib.hid (HB1.out.trans (hr.2.mono HB1.out.size))
  clear hr hw3
  simp only [show (St.uniS []).length = 0 from rfl]
  go_wp2
  go_ret
  exact ⟨rfl, HB2.out⟩

namespace St
/-- more than a statement goes through. -/
def bigW (t : Bs) : Bool := decide (200 < t.length)
def greatB (ws : List Bs) : Bool := (ws.take 100).any bigW || decide (60 < ws.length)
theorem any_take_at {α : Type} {l : List α} {d : α} {f : α → Bool} {q : Nat} (h : q < l.length) (h6 : q < 100) (hf : f (l.getD q d) = true) : (l.take 100).any f = true := by
  rw [List.any_eq_true]
  refine ⟨l.getD q d, ?_, hf⟩
  rw [getD_eq h, List.mem_take_iff_getElem]
  exact ⟨q, by omega, rfl⟩
theorem any_take_none {α : Type} {l : List α} {d : α} {f : α → Bool} {q : Nat} (h : ∀ j, j < q → f (l.getD j d) = false) (hq : l.length ≤ q ∨ 100 ≤ q) : (l.take 100).any f = false := by
  rw [List.any_eq_false]
  intro x hx
  rw [List.mem_take_iff_getElem] at hx
  obtain ⟨j, hj, rfl⟩ := hx
  have := h j (by omega)
  rw [getD_eq (by omega)] at this
  simp [this]
theorem great_no {ws : List Bs} (h : greatB ws = false) : ws.length ≤ 60 ∧ ∀ t ∈ ws, t.length ≤ 200 := by
  simp only [greatB, Bool.or_eq_false_iff, decide_eq_false_iff_not] at h
  obtain ⟨h1, h2⟩ := h
  rw [List.take_of_length_le (by omega), List.any_eq_false] at h1
  refine ⟨by omega, fun t ht => ?_⟩
  have := h1 t ht
  simp only [bigW, decide_eq_true_eq] at this
  omega
end St

set_option maxRecDepth 100000 in
set_option maxHeartbeats 4000000 in
theorem great_any (a : Option Addr) (c : Nat) (ws : List St.Bs) (w : World) (hF : Wds w a c ws) :
    Calls Try.prog 8 #[.slice a ws.length c] w fun e w' => e = .returned (.bool (St.greatB ws)) ∧ w = w' := by
  have hn : ws.length ≤ 9223372036854775807 := Nat.le_trans hF.1 hF.2.1
  have hnI : (ws.length : Int) ≤ 9223372036854775807 := by omega
  have HF := Lib.hid hF
  clear hF
  go_enter Try.func8, Try.ntmps8
  go_wp2_with fail
  go_loop [2, 3] (fun r i => ∃ q : Nat, q ≤ ws.length ∧ q ≤ 100 ∧ r = .bool false ∧ i = .int .i64 q ∧ Hid (∀ j, j < q → St.bigW (ws.getD j []) = false)) (fun _ i => ws.length - (intOf i).toNat)
  case atStart => exact ⟨0, Nat.zero_le _, Nat.zero_le _, rfl, rfl, Lib.hid fun j h => by omega⟩
  case round =>
    obtain ⟨q, hq, hq6, rfl, rfl, HJ⟩ := hrel
    by_cases hlt : q < ws.length
    · have d1 : decide (q < ws.length) = true := decide_eq_true hlt
      have d1i : decide ((q : Int) < (ws.length : Int)) = true := decide_eq_true (by omega)
      by_cases h6 : q < 100
      · have d2 : (q : Int) < 100 := by omega
        obtain ⟨b, off, rfl, hb, hc⟩ := HF.out.get (by omega)
        have y0 := hc q hlt
        have k0 : (0 : Int) ≤ (q : Int) := by omega
        have k1 : (q : Int) < (ws.length : Int) := by omega
        have hsl := HF.out.len (k := q)
        by_cases hbig : (ws.getD q []).length ≤ 200
        · have HX := Lib.hid (show ∀ j, j < q + 1 → St.bigW (ws.getD j []) = false from fun j hj => by
            rcases Nat.lt_or_ge j q with h | h
            · exact HJ.out j h
            · obtain rfl : j = q := by omega
              unfold St.bigW
              rw [decide_eq_false]
              omega)
          have d3 : ¬ (200 : Int) < ((ws.getD q []).length : Int) := by omega
          clear hc hbig
          generalize ws.getD q [] = x at *
          go_wp2_with fail
          go_round
          case rel => exact ⟨q + 1, by omega, by omega, rfl, by go_num, HX⟩
          case measure => simp [intOf]; omega
        · have HG := Lib.hid (show St.greatB ws = true by
            unfold St.greatB
            rw [St.any_take_at (d := []) hlt h6 (by unfold St.bigW; rw [decide_eq_true]; omega), Bool.true_or])
          have d3 : (200 : Int) < ((ws.getD q []).length : Int) := by omega
          clear hc hbig
          generalize ws.getD q [] = x at *
          go_wp2_with fail
          go_ret
          exact ⟨by rw [HG.out]; rfl, rfl⟩
      · obtain rfl : q = 100 := by omega
        have HG := Lib.hid (show St.greatB ws = true by
          unfold St.greatB
          rw [decide_eq_true (by omega), Bool.or_true])
        have d3 : (60 : Int) < (ws.length : Int) := by omega
        clear h6
        go_wp2_with fail
        go_ret
        exact ⟨by rw [HG.out]; rfl, rfl⟩
    · obtain rfl : q = ws.length := by omega
      have HG := Lib.hid (show St.greatB ws = decide (60 < ws.length) by
        unfold St.greatB
        rw [St.any_take_none (d := []) HJ.out (.inl (Nat.le_refl _)), Bool.false_or])
      by_cases h8 : 60 < ws.length
      · rw [decide_eq_true h8] at HG
        have d3 : (60 : Int) < (ws.length : Int) := by omega
        clear h8
        go_wp2_with fail
        go_ret
        exact ⟨by rw [HG.out]; rfl, rfl⟩
      · rw [decide_eq_false h8] at HG
        have d3 : ¬ (60 : Int) < (ws.length : Int) := by omega
        clear h8
        go_wp2_with fail
        go_ret
        exact ⟨by rw [HG.out]; rfl, rfl⟩
namespace St
/-- a letter by a number. -/
def lt (b : UInt8) : Bs := [UInt8.ofNat (97 + b.toNat % 12)]
def lett (ns : List UInt8) : List Bs := ns.map lt
theorem lett_len (ns : List UInt8) : (lett ns).length = ns.length := by simp [lett]
theorem lt_int (b : UInt8) (y : Int) (h : (b.toNat : Int) = y) : [UInt8.ofNat (97 + y % 12).toNat] = lt b := by
  unfold lt
  rw [← h, show (97 + (b.toNat : Int) % 12).toNat = 97 + b.toNat % 12 by omega]
theorem lett_take {ns : List UInt8} {q : Nat} (h : q < ns.length) : lett (ns.take (q + 1)) = lett (ns.take q) ++ [lt (ns.getD q 0)] := by
  rw [take_succ_getD (d := 0) h]
  simp [lett]
theorem lett_ok (ns : List UInt8) : ∀ s ∈ lett ns, s.length ≤ 1 := by
  intro s hs
  obtain ⟨b, _, rfl⟩ := List.mem_map.1 hs
  simp [lt]
end St

set_option maxRecDepth 100000 in
set_option maxHeartbeats 4000000 in
theorem lset_any (p : Option Addr) (cap : Nat) (ns : List UInt8) (w : World) (hP : Bytes w p ns) (hl : ns.length ≤ 1000000) :
    Calls Try.prog 20 #[.slice p ns.length cap] w fun e W => ∃ u, e = .returned u ∧ RowW w u (St.ofS (St.lett ns)) W := by
  obtain ⟨iF, hiF, hiF0, hiF1, hiF2⟩ := info_parts info9
  have HP := Lib.hid hP
  have hnI : (ns.length : Int) ≤ 1000000 := by omega
  have kc := conv1
  clear hP
  go_enter Try.func20, Try.ntmps20
  go_wp2_with fail
  go_loopw [3, 4] (fun u i wr => ∃ q : Nat, q ≤ ns.length ∧ i = .int .i64 q ∧ Hid (RowW w u (St.lett (ns.take q)) wr)) (fun _ i _ => ns.length - (intOf i).toNat)
  case atStart => exact ⟨0, Nat.zero_le _, rfl, Lib.hid (RowW.none (Below.refl _ _))⟩
  case round =>
    obtain ⟨q, hq, rfl, HQ⟩ := hrel
    have hzr := HQ.out.2.size
    by_cases hlt : q < ns.length
    · obtain ⟨bP, oP, rfl, hc⟩ : ∃ b off, p = some ⟨b, off, none⟩ ∧ ∀ k, k < ns.length → w.cell? ⟨b, off + k, none⟩ = some (.int .u8 ((ns.getD k 0).toNat : Int)) := by
        rcases HP.out with h | h
        · rw [h] at hlt; simp at hlt
        · exact h
      have hbP := World.block_lt_of_cell? w _ (hc q hlt)
      have y0 := (HQ.out.2.cell (p := ⟨bP, oP + q, none⟩) hbP).trans (hc q hlt)
      have HNX := Lib.hid (St.lett_take hlt)
      have hlo : (St.lett (ns.take q)).length ≤ 1000000 := by rw [St.lett_len, List.length_take]; omega
      obtain ⟨y, hy⟩ : ∃ y : Int, ((ns.getD q 0).toNat : Int) = y := ⟨_, rfl⟩
      have hyb : 0 ≤ y ∧ y ≤ 255 := by have := UInt8.toNat_lt (ns.getD q 0); omega
      have HSY := Lib.hid (St.lt_int _ y hy)
      rw [hy] at y0
      obtain ⟨hy0, hy1⟩ := hyb
      have k0 : (0 : Int) ≤ (q : Int) := by omega
      have k1 : (q : Int) < (ns.length : Int) := by omega
      have w1' : IntKind.u8.wrap (97 + y % 12) = 97 + y % 12 := by rw [IntKind.wrap_u8]; omega
      rw [← HSY.out] at HNX
      clear hy hc
      generalize St.lett (ns.take q) = out at HQ hlo HNX
      go_wp2_with (at_builtin; refine wpList_append_own _ rfl (.tmp 11) (.tmp 20) 25 rfl w.heap.size 9 iF _ 1 16 Try.underlying25 hiF hiF0 hiF1 hiF2 rfl (by decide) _ _ _ rfl ((HQ.out.1.alloc _).alloc _) ⟨wr.heap.size + 1, 0, Option.none⟩ 1 1 [.string ⟨[UInt8.ofNat (97 + y % 12).toNat].toArray⟩] rfl rfl (one_news _ _ (by simp) _ _) (by simp [Value.oneCell']) (by unfold maxLen; omega) (by omega) (by simp; omega) ?_; intro v1 w1 hown hgrow _; have HR2 := Lib.hid (((HQ.out.later ((Below.refl _ _).alloc (Nat.le_refl _) _))).append hown hgrow); have hzw1 := HR2.out.2.size; clear hown hgrow)
      go_roundw
      case rel => exact ⟨q + 1, by omega, by go_num, by rw [HNX.out]; exact HR2⟩
      case measure => simp [intOf]; omega
    · obtain rfl : q = ns.length := by omega
      rw [List.take_length] at HQ
      obtain ⟨a1, c1, rfl, hwd⟩ := HQ.out.words (fun s hs => by have := St.lett_ok ns s hs; omega)
      have HC := Lib.hid (callsIn_wide.1 (of_any a1 c1 (St.lett ns) wr hwd (by rw [St.lett_len]; exact hl) (fun s hs => by have : s.length ≤ 1 := St.lett_ok ns s hs; show s.length ≤ 1000000; omega)))
      obtain ⟨ll, hll⟩ : ∃ ll, St.lett ns = ll := ⟨_, rfl⟩
      rw [hll] at HC HQ ⊢
      have HLL := Lib.hid hll
      clear hwd hll
      go_wp2_with fail
      refine HC.out.mono ?_
      rintro e w2 ⟨u, rfl, hr⟩
      have HR := Lib.hid hr
      clear hr HC
      go_wp2
      go_ret
      exact ⟨_, rfl, by rw [HLL.out]; exact owns_base HR.out.1 HQ.out.2.size, HQ.out.2.trans (HR.out.2.mono HQ.out.2.size)⟩
end Go.Proofs.Ytekdmnecjgpokaa
