/- What the laws of stage 3 share: Get of a text's bytes, Put as a text, Num. The laws' example. The contract of resp.Words. -/
import Derived.Test.YtbkhnnjjpelfcaaGreatDoorRpGet
import Derived.Test.YtbkhnnjjpelfcaaGreatDoorRpRefPlain
import Derived.Test.YtbkhnnjjpelfcaaGreatDoorRpPut
import Derived.Lib.ConvBytes
import Derived.Lib.SlBytesConst
import Derived.Lib.AtoiErrMem
import Derived.Test.YtbkhnnjjpelfcaaGreatDoorRpArray
import Derived.Laws.OwnMore
namespace Go.Proofs.YtbkhnnjjpelfcaaGreatDoor
open Go.RowKit Go.Shelf
attribute [local go_sem] Oper.semAt_some
set_option linter.unusedVariables false
set_option linter.unusedSimpArgs false

/-- bytes in a block. -/
theorem Bt.of_block {W : World} {b cap : Nat} {cs : Array Value} {fz : Nat × Nat} {bs : List UInt8} (h : W.heap[b]? = some (.cells cs 5 fz)) (hc : ∀ k, k < bs.length → cs[k]? = some (.int .u8 ((bs.getD k 0).toNat : Int))) (hl : bs.length ≤ cap) (hm : cap ≤ 9223372036854775807) :
    Bt (fun i => i < W.heap.size) W (some ⟨b, 0, none⟩) cap bs := by
  have hlt := (Array.getElem?_eq_some_iff.1 h).1
  refine ⟨hl, hm, .inr ⟨b, 0, rfl, hlt, hlt, fun k hk => ?_⟩⟩
  have := hc k hk
  rw [Nat.zero_add]
  simp [World.cell?, h, this]

/-- what Put hands back, as bytes that came in. -/
theorem Buf.bt {base : Nat} {bs : List UInt8} {v : Value} {W : World} (h : Buf base bs v W) : ∃ a cap, v = .slice a bs.length cap ∧ Bt (fun i => i < W.heap.size) W a cap bs := by
  obtain ⟨_, hc⟩ := h
  rcases hc with ⟨h1, h2⟩ | ⟨g, cap, cur, h1, hb, hg, hn, hm, hs, ht⟩
  · have : bs = [] := List.eq_nil_of_length_eq_zero h2
    subst this
    exact ⟨none, 0, h1, Nat.le_refl _, by decide, .inl rfl⟩
  · refine ⟨some ⟨g, 0, none⟩, cap, h1, Bt.of_block hg (fun k hk => ?_) hn (by unfold maxLen at hm; omega)⟩
    have h3 : (cur.toList.take (bs.length * 1))[k]? = (Lib.byteCells bs)[k]? := by rw [ht]
    rw [List.getElem?_take_of_lt (by omega)] at h3
    rw [Array.getElem?_toList] at h3
    rw [h3]
    simp [Lib.byteCells, List.getD, hk]
theorem Buf.conv {base : Nat} {bs : List UInt8} {v : Value} {W : World} (h : Buf base bs v W) : (convert 36 9 v).run Tryz.prog W = .ok (.string ⟨bs.toArray⟩) W := by
  obtain ⟨a, cap, rfl, hb⟩ := h.bt
  exact hb.conv

/-- []byte(s). -/
def capS (w : World) (s : List UInt8) : Nat := grownCap w s.length 0 5
theorem sb_conv (w : World) (s : List UInt8) : (convert 9 36 (.string ⟨s.toArray⟩)).run Tryz.prog w = .ok (.slice (some ⟨w.heap.size, 0, none⟩) s.length (capS w s)) (Lib.bytesWorld w 5 ⟨s.toArray⟩) :=
  Lib.run_convert_string_bytes (P := Tryz.prog) w 9 36 5 ⟨s.toArray⟩ Tryz.underlying9 Tryz.underlying36 Tryz.underlying5
theorem sb_bt (w : World) (s : List UInt8) (hl : s.length ≤ 1000000) (hc : s.length ≤ capS w s ∧ capS w s ≤ 9223372036854775807) : Bt (fun i => i < (Lib.bytesWorld w 5 ⟨s.toArray⟩).heap.size) (Lib.bytesWorld w 5 ⟨s.toArray⟩) (some ⟨w.heap.size, 0, none⟩) (capS w s) s := by
  have hs : (⟨s.toArray⟩ : ByteArray).size = s.length := by show s.toArray.size = _; simp
  refine ⟨hc.1, hc.2, .inr ⟨w.heap.size, 0, rfl, by rw [Lib.bytesWorld_size]; omega, by rw [Lib.bytesWorld_size]; omega, fun k hk => ?_⟩⟩
  rw [Nat.zero_add, Lib.bytesWorld_cell w _ _ k (by rw [hs]; exact hk)]
end Go.Proofs.YtbkhnnjjpelfcaaGreatDoor
namespace Go.Proofs.YtbkhnnjjpelfcaaGreatDoor
open Go.RowKit Go.Shelf
attribute [local go_sem] Oper.semAt_some
set_option linter.unusedVariables false
set_option linter.unusedSimpArgs false

def wakeB : List UInt8 := [42, 49, 13, 10, 36, 49, 13, 10, 97, 13, 10]
def wakeR : Rp.R := .mk 6 [] 0 [.mk 4 [97] 0 []]
theorem dec_one : Dig.dec 1 = [49] := by
  unfold Dig.dec
  rw [if_neg (by decide)]
  exact Dig.digs_small (by decide)
theorem wake_enc : Rp.enc wakeR = wakeB := by
  simp [wakeR, wakeB, Rp.enc, Rp.encL, Rp.own, Rp.crlf, dec_one]
theorem wake_get : getO wakeB 0 = .ok wakeR [] := by
  have h := Rp.get_put (r := wakeR) (by decide) (fun p hp => by
    simp [wakeR, Rp.heads, Rp.headsL] at hp
    rcases hp with rfl | rfl <;> exact ⟨by decide, by decide⟩) []
  rw [List.append_nil, wake_enc] at h
  unfold getO
  rw [if_neg (by decide)]
  exact h

/-- Put of RNil. -/
theorem put_nil (w : World) (henv : Env w) : Calls Tryz.prog 38 #[.agg #[.int .i64 5, .string ⟨#[]⟩, .int .i64 0, .slice none 0 0]] w fun e W => ∃ a cap, e = .returned (.slice a 5 cap) ∧ (convert 36 9 (.slice a 5 cap)).run Tryz.prog W = .ok (.string ⟨#[36, 45, 49, 13, 10]⟩) W ∧ Below w.heap.size w W := by
  have h := callsIn_wide.1 (put_any (.mk 5 [] 0 []) none 0 w (by simp [Rp.heads, Rp.headsL]) (fun p hp hk => by
    simp [Rp.heads, Rp.headsL] at hp
    subst hp
    rcases hk with hk | hk <;> cases hk) henv (Rep.intro (by unfold Fit; simp) (.inl rfl)))
  have e : Rp.putB (.mk 5 [] 0 []) = [36, 45, 49, 13, 10] := by
    unfold Rp.putB
    rw [if_pos (by decide)]
    have h1 : Dig.dec (-1) = [45, 49] := by
      unfold Dig.dec
      rw [if_pos (by decide)]
      show 45 :: Dig.digs 1 = _
      rw [Dig.digs_small (by decide)]
      rfl
    simp [Rp.enc, Rp.encL, Rp.own, Rp.crlf, h1]
  rw [e] at h
  refine Calls.mono (R := fun e W' => ∃ v, e = .returned v ∧ Buf w.heap.size [36, 45, 49, 13, 10] v W' ∧ Below w.heap.size w W') h ?_
  rintro e W ⟨v, rfl, hb, hl⟩
  have hc := hb.conv
  obtain ⟨a, cap, rfl, _⟩ := hb.bt
  exact ⟨a, cap, rfl, hc, hl⟩

theorem rep_wake {S : Nat → Prop} {W : World} {k m : Int} {s : ByteArray} {a : Option Addr} {l cap : Nat} (h : Rep S W wakeR (.agg #[.int .i64 k, .string s, .int .i64 m, .slice a l cap])) :
    ∃ b off, k = 6 ∧ a = some ⟨b, off, none⟩ ∧ l = 1 ∧ 1 ≤ cap ∧ cap ≤ 9223372036854775807 ∧ b < W.heap.size ∧ W.cell? ⟨b, off + 1, none⟩ = some (.string ⟨#[97]⟩) := by
  obtain ⟨a', cap', hv, hf, hl⟩ := h.parts
  unfold rv at hv
  simp only [wakeR, Rp.R.k, Rp.R.s, Rp.R.n, Rp.R.l, Value.agg.injEq, Array.mk.injEq, List.cons.injEq, and_true, Value.int.injEq, true_and, Value.string.injEq, Value.slice.injEq, List.length_cons, List.length_nil, Nat.zero_add] at hv
  obtain ⟨rfl, -, -, rfl, rfl, rfl⟩ := hv
  unfold Fit at hf
  simp only [wakeR, Rp.R.l, List.length_cons, List.length_nil, Nat.zero_add] at hf
  rcases hl with hl | ⟨b, off, rfl, _, hlt, hr⟩
  · cases hl
  · refine ⟨b, off, rfl, rfl, rfl, by omega, by omega, hlt, ?_⟩
    obtain ⟨v0, v1, v2, v3, c0, c1, c2, c3, hrep⟩ := hr.get 0 (by simp [wakeR, Rp.R.l])
    obtain ⟨a2, cap2, hv2, _⟩ := hrep.parts
    unfold rv at hv2
    simp only [wakeR, Rp.R.k, Rp.R.s, Rp.R.n, Rp.R.l, Value.agg.injEq, Array.mk.injEq, List.cons.injEq, and_true, List.getElem_cons_zero] at hv2
    obtain ⟨-, rfl, -, -⟩ := hv2
    simpa using c1

end Go.Proofs.YtbkhnnjjpelfcaaGreatDoor
namespace Go.Proofs.YtbkhnnjjpelfcaaGreatDoor
open Go.RowKit Go.Shelf
attribute [local go_sem] Oper.semAt_some
set_option linter.unusedVariables false
set_option linter.unusedSimpArgs false

/-- words in memory. -/
def Wl (w : World) (a : Option Addr) (cap : Nat) (ws : List (List UInt8)) : Prop :=
  ws.length ≤ cap ∧ cap ≤ 9223372036854775807 ∧ (∀ s ∈ ws, s.length ≤ 9223372036854775807) ∧ (ws = [] ∨ ∃ b off, a = some ⟨b, off, none⟩ ∧ b < w.heap.size ∧ ∀ k, k < ws.length → w.cell? ⟨b, off + k, none⟩ = some (.string ⟨(ws.getD k []).toArray⟩))

theorem Wl.later {w w' : World} {a : Option Addr} {cap : Nat} {ws : List (List UInt8)} (h : Wl w a cap ws) (hb : Below w.heap.size w w') : Wl w' a cap ws := by
  obtain ⟨h0, h1, h2, h3⟩ := h
  refine ⟨h0, h1, h2, ?_⟩
  rcases h3 with h3 | ⟨b, off, ha, hlt, hc⟩
  · exact .inl h3
  · exact .inr ⟨b, off, ha, Nat.lt_of_lt_of_le hlt hb.size, fun k hk => by rw [hb.cell (p := ⟨b, off + k, none⟩) hlt]; exact hc k hk⟩

/-- the words as a reply. -/
def wordsR (ws : List (List UInt8)) : Rp.R := .mk 6 [] 0 (ws.map fun s => .mk 4 s 0 [])

theorem words_heads (lev : Nat) : ∀ ws : List (List UInt8), Rp.headsL lev (ws.map fun s => Rp.R.mk 4 s 0 []) = ws.map fun s => (⟨4, s, 0, 0⟩, lev)
  | [] => rfl
  | s :: ws => by
    rw [List.map_cons, Rp.headsL, words_heads lev ws]
    simp [Rp.heads, Rp.headsL]

theorem words_all (ws : List (List UInt8)) : Rp.heads 0 (wordsR ws) = (⟨6, [], 0, ws.length⟩, 0) :: ws.map fun s => (⟨4, s, 0, 0⟩, 1) := by
  unfold wordsR
  rw [Rp.heads, words_heads]
  simp

theorem words_may {ws : List (List UInt8)} (hl : ws.length ≤ 65536) (hs : ∀ s ∈ ws, s.length ≤ 1048576) : Rp.mayB (wordsR ws) = true := by
  unfold Rp.mayB
  rw [words_all, List.all_cons, Bool.and_eq_true, List.all_map, List.all_eq_true]
  refine ⟨?_, fun s h => ?_⟩
  · simp [Rp.okB, Rp.fitsB, hl]
  · simp [Rp.okB, Rp.fitsB, hs s h]

/-- the row that is being filled: m words are in it. -/
def Wq (W : World) (g : Nat) (ws : List (List UInt8)) (m : Nat) : Prop := ∃ cs, W.heap[g]? = some (.cells cs 45 (0, 0)) ∧
  ∀ j, j < ws.length → cs[j * 4]? = some (.int .i64 (if j < m then 4 else 0)) ∧ cs[j * 4 + 1]? = some (.string ⟨(if j < m then ws.getD j [] else []).toArray⟩) ∧ cs[j * 4 + 2]? = some (.int .i64 0) ∧ cs[j * 4 + 3]? = some (.slice none 0 0)

theorem Wq.cells {W : World} {g : Nat} {ws : List (List UInt8)} {m : Nat} (h : Wq W g ws m) {j : Nat} (hj : j < ws.length) :
    (W.cell? ⟨g, j * 4, none⟩ = some (.int .i64 (if j < m then 4 else 0)) ∧ W.cell? ⟨g, j * 4 + 1, none⟩ = some (.string ⟨(if j < m then ws.getD j [] else []).toArray⟩) ∧ W.cell? ⟨g, j * 4 + 2, none⟩ = some (.int .i64 0) ∧ W.cell? ⟨g, j * 4 + 3, none⟩ = some (.slice none 0 0)) ∧
    (W.frozen? ⟨g, j * 4, none⟩ = false ∧ W.frozen? ⟨g, j * 4 + 1, none⟩ = false ∧ W.frozen? ⟨g, j * 4 + 2, none⟩ = false ∧ W.frozen? ⟨g, j * 4 + 3, none⟩ = false) := by
  obtain ⟨cs, hg, hc⟩ := h
  obtain ⟨c0, c1, c2, c3⟩ := hc j hj
  refine ⟨⟨?_, ?_, ?_, ?_⟩, ?_⟩
  · rw [← c0]; simp [World.cell?, hg]
  · rw [← c1]; simp [World.cell?, hg]
  · rw [← c2]; simp [World.cell?, hg]
  · rw [← c3]; simp [World.cell?, hg]
  · simp [World.frozen?, hg]

theorem Wq.step {W : World} {g : Nat} {ws : List (List UInt8)} {m : Nat} (h : Wq W g ws m) (hm : m < ws.length) : Wq (set4o W g (m * 4) (.int .i64 4) (.string ⟨(ws.getD m []).toArray⟩) (.int .i64 0) (.slice none 0 0)) g ws (m + 1) := by
  obtain ⟨cs, hg, hc⟩ := h
  have hsz : m * 4 + 3 < cs.size := (Array.getElem?_eq_some_iff.1 (hc m hm).2.2.2).1
  refine ⟨(((cs.setIfInBounds (m * 4) (.int .i64 4)).setIfInBounds (m * 4 + 1) (.string ⟨(ws.getD m []).toArray⟩)).setIfInBounds (m * 4 + 2) (.int .i64 0)).setIfInBounds (m * 4 + 3) (.slice none 0 0), by simp [set4o, World.setCell, Array.getElem?_modify, hg], fun j hj => ?_⟩
  obtain ⟨c0, c1, c2, c3⟩ := hc j hj
  by_cases e : j = m
  · subst e
    rw [if_pos (by omega), if_pos (by omega)]
    simp only [Array.getElem?_setIfInBounds]
    refine ⟨?_, ?_, ?_, ?_⟩
    · rw [if_neg (by omega), if_neg (by omega), if_neg (by omega), if_pos trivial, if_pos (by omega)]
    · rw [if_neg (by omega), if_neg (by omega), if_pos trivial, if_pos (by simp; omega)]
    · rw [if_neg (by omega), if_pos trivial, if_pos (by simp; omega)]
    · rw [if_pos trivial, if_pos (by simp; omega)]
  · have k4 : (if j < m + 1 then (4 : Int) else 0) = if j < m then 4 else 0 := by split <;> split <;> omega
    have k5 : (if j < m + 1 then ws.getD j [] else []) = if j < m then ws.getD j [] else [] := by
      by_cases h' : j < m
      · rw [if_pos h', if_pos (by omega)]
      · rw [if_neg h', if_neg (by omega)]
    rw [k4, k5]
    simp only [Array.getElem?_setIfInBounds]
    refine ⟨?_, ?_, ?_, ?_⟩
    · rw [if_neg (by omega), if_neg (by omega), if_neg (by omega), if_neg (by omega)]; exact c0
    · rw [if_neg (by omega), if_neg (by omega), if_neg (by omega), if_neg (by omega)]; exact c1
    · rw [if_neg (by omega), if_neg (by omega), if_neg (by omega), if_neg (by omega)]; exact c2
    · rw [if_neg (by omega), if_neg (by omega), if_neg (by omega), if_neg (by omega)]; exact c3

theorem words_make (w : World) (ws : List (List UInt8)) (hl : ws.length ≤ 1000) : ∃ cs, (Instr.makeSlice 43 (.int .i64 (ws.length : Int)) (.int .i64 (ws.length : Int))).run Tryz.prog w = .ok (.slice (some ⟨w.heap.size, 0, none⟩) ws.length ws.length) (w.alloc (.cells cs 45)) ∧ Wq (w.alloc (.cells cs 45)) w.heap.size ws 0 := by
  obtain ⟨i, hi, hz, hs, hb⟩ := info_parts info24
  have h := run_makeSlice (P := Tryz.prog) (w := w) 43 45 i _ Tryz.underlying43 hi hz .i64 .i64 (ws.length : Int) (ws.length : Int) (by omega) (by omega) (by rw [hs]; omega) (by rw [hb]; omega) (by omega)
  rw [hs] at h
  refine ⟨_, h, _, World.alloc_heap_new _ _, fun j hj => ?_⟩
  have h0 : j * 4 % 4 = 0 := by omega
  have h1 : (j * 4 + 1) % 4 = 1 := by omega
  have h2 : (j * 4 + 2) % 4 = 2 := by omega
  have h3 : (j * 4 + 3) % 4 = 3 := by omega
  have l0 : j * 4 < ws.length * 4 := by omega
  have l1 : j * 4 + 1 < ws.length * 4 := by omega
  have l2 : j * 4 + 2 < ws.length * 4 := by omega
  have l3 : j * 4 + 3 < ws.length * 4 := by omega
  simp [madeCells, Value.cells, h0, h1, h2, h3, l0, l1, l2, l3]

/-- the row as the elements of a reply. -/
theorem Wq.rep {W : World} {g : Nat} {ws : List (List UInt8)} (h : Wq W g ws ws.length) (hs : ∀ s ∈ ws, s.length ≤ 1048576) (S : Nat → Prop) : RepL S W (ws.map fun s => Rp.R.mk 4 s 0 []) g 0 := by
  have key : ∀ (l : List (List UInt8)) (k : Nat), (∀ i, i < l.length → l[i]? = ws[k + i]?) → k + l.length = ws.length → RepL S W (l.map fun s => Rp.R.mk 4 s 0 []) g (k * 4) := by
    intro l
    induction l with
    | nil => intro k _ _; unfold RepL; trivial
    | cons s l ih =>
      intro k hk hn
      simp only [List.length_cons] at hn
      have e := hk 0 (by simp)
      simp only [List.getElem?_cons_zero, Nat.add_zero] at e
      obtain ⟨⟨c0, c1, c2, c3⟩, _⟩ := h.cells (j := k) (by omega)
      rw [if_pos (by omega)] at c0 c1
      have e3 : ws.getD k [] = s := by rw [List.getD, ← e]; rfl
      rw [e3] at c1
      rw [List.map_cons]
      unfold RepL
      have hin : s ∈ ws := List.mem_of_getElem? e.symm
      have hsl := hs s hin
      refine ⟨⟨_, _, _, _, c0, c1, c2, c3, Rep.intro (a := none) (cap := 0) (by unfold Fit; simp; omega) (.inl rfl)⟩, ?_⟩
      rw [show k * 4 + 4 = (k + 1) * 4 by omega]
      refine ih (k + 1) (fun i hi => ?_) (by omega)
      have := hk (i + 1) (by simp; omega)
      simp only [List.getElem?_cons_succ] at this
      rw [this, show k + (i + 1) = k + 1 + i by omega]
  have := key ws 0 (fun i _ => by simp) (by simp)
  simpa using this

set_option maxRecDepth 100000 in
set_option maxHeartbeats 8000000 in
theorem words_any (ws : List (List UInt8)) (a : Option Addr) (cap : Nat) (w : World) (hl : ws.length ≤ 1000) (hs : ∀ s ∈ ws, s.length ≤ 1048576) (hw : Wl w a cap ws) (henv : Env w) :
    Calls Tryz.prog 19 #[.slice a ws.length cap] w fun e W => ∃ v, e = .returned v ∧ Buf w.heap.size (Rp.enc (wordsR ws)) v W ∧ Below w.heap.size w W := by
  obtain ⟨cs0, hmk, hwq⟩ := words_make w ws hl
  obtain ⟨w1, hw1⟩ : ∃ w1, w.alloc (.cells cs0 45) = w1 := ⟨_, rfl⟩
  rw [hw1] at hmk hwq
  have hB1 : Below w.heap.size w w1 := by rw [← hw1]; exact (Below.refl _ w).alloc (Nat.le_refl _) _
  have HW := Lib.hid hw
  have HQ := Lib.hid hwq
  have HB1 := Lib.hid hB1
  have HENV := Lib.hid henv
  have HS := Lib.hid hs
  have hcc := hw.1
  have hcm := hw.2.1
  have hlI : (ws.length : Int) ≤ 1000 := by omega
  clear hw1 hwq hB1 hw henv hs
  go_enter Tryz.func19, Tryz.ntmps19
  go_upto_region 3 with (fail)
  go_loopw [11] (fun i wr => ∃ m : Nat, m ≤ ws.length ∧ i = .int .i64 (m : Int) ∧ Hid (Wq wr w.heap.size ws m) ∧ Hid (Below w.heap.size w wr)) (fun i _ => ws.length - (intOf i).toNat)
  case atStart => exact ⟨0, Nat.zero_le _, rfl, HQ, HB1⟩
  case round =>
    obtain ⟨m, hm, rfl, HM, HB⟩ := hrel
    by_cases hlt : m < ws.length
    · obtain ⟨b, off, rfl, hb, hc⟩ := HW.out.2.2.2.resolve_left (by rintro rfl; simp at hlt)
      have c1 := (HB.out.cell (p := ⟨b, off + m, none⟩) hb).trans (hc m hlt)
      obtain ⟨⟨d0, d1, d2, d3⟩, ⟨f0, f1, f2, f3⟩⟩ := HM.out.cells hlt
      clear hc
      have hltI : (m : Int) < (ws.length : Int) := by omega
      have ewn : IntKind.i64.wrap ((m : Int) + 1) = (m : Int) + 1 := IntWalk.i64_in _ (by omega)
      have HM2 := Lib.hid (HM.out.step hlt)
      have HB2 : Hid (Below w.heap.size w (set4o wr w.heap.size (m * 4) (.int .i64 4) (.string ⟨(ws.getD m []).toArray⟩) (.int .i64 0) (.slice none 0 0))) := Lib.hid ((((HB.out.setCell (p := ⟨w.heap.size, m * 4, none⟩) (Nat.le_refl _) _).setCell (p := ⟨w.heap.size, m * 4 + 1, none⟩) (Nat.le_refl _) _).setCell (p := ⟨w.heap.size, m * 4 + 2, none⟩) (Nat.le_refl _) _).setCell (p := ⟨w.heap.size, m * 4 + 3, none⟩) (Nat.le_refl _) _)
      generalize ws.getD m [] = x at *
      go_wp2
      go_roundw
      case rel => exact ⟨m + 1, by omega, by go_num, HM2, HB2⟩
      case measure => simp [intOf]; omega
    · obtain rfl : m = ws.length := by omega
      have hrep : Rep (fun k => k < wr.heap.size) wr (wordsR ws) (rv 6 [] 0 (some ⟨w.heap.size, 0, none⟩) (ws.map fun s => Rp.R.mk 4 s 0 []).length ws.length) := by
        have hg : w.heap.size < wr.heap.size := by
          obtain ⟨cs, h1, -⟩ := HM.out
          exact (Array.getElem?_eq_some_iff.1 h1).1
        exact Rep.intro (by unfold Fit; simp; omega) (.inr ⟨_, _, rfl, hg, hg, HM.out.rep HS.out _⟩)
      have hp := callsIn_wide.1 (put_any (wordsR ws) (some ⟨w.heap.size, 0, none⟩) ws.length wr (by rw [words_all]; simp; omega) (fun p hp hk => by
        rw [words_all] at hp
        simp at hp
        rcases hp with rfl | ⟨s, _, rfl⟩ <;> rcases hk with hk | hk <;> cases hk) (HENV.out.below HB.out HENV.out.size) hrep)
      unfold wordsR rv at hp
      simp only [Rp.R.k, Rp.R.s, Rp.R.n, Rp.R.l, List.length_map] at hp
      have HP := Lib.hid hp
      have HE : Hid (Rp.putB (wordsR ws) = Rp.enc (wordsR ws)) := Lib.hid (by unfold Rp.putB; rw [if_pos (words_may (by omega) HS.out)])
      clear hp hrep
      go_wp2_with fail
      refine HP.out.mono ?_
      rintro e w2 ⟨v, rfl, hbuf, hb2⟩
      go_wp2
      go_ret
      refine ⟨v, rfl, ?_, HB.out.trans (hb2.mono HB.out.size)⟩
      have := HE.out
      unfold wordsR at this ⊢
      rw [← this]
      exact owns_base hbuf HB.out.size
end Go.Proofs.YtbkhnnjjpelfcaaGreatDoor
