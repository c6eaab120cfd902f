/- The contracts of slices.Sorted, slices.Compact and sets.Of. -/
import Derived.Test.YtekdmnecjgpokaaStVals
import Derived.Test.YtekdmnecjgpokaaStCollect
import Derived.Test.YtekdmnecjgpokaaStSet
namespace Go.Proofs.Ytekdmnecjgpokaa
open Go.RowKit Go.Shelf
attribute [local go_sem] Oper.semAt_some
set_option linter.unusedVariables false
set_option linter.unusedSimpArgs false

/-- texts in a row of the call's own, as the sort's words have it. -/
def HRow (w : World) (u : Value) (ws : List St.Bs) (W : World) : Prop :=
  ∃ a cap, u = .slice a ws.length cap ∧ Wds W a cap ws ∧ (ws ≠ [] → ∃ g, a = some ⟨g, 0, none⟩ ∧ w.heap.size ≤ g ∧ g < W.heap.size ∧ Go.Sort.Holds encStr W g 0 ws.toArray) ∧ Below w.heap.size w W

theorem holds_wds {W : World} {g cap : Nat} {ws : List St.Bs} (h : Go.Sort.Holds encStr W g 0 ws.toArray) (hlt : g < W.heap.size) (hc : ws.length ≤ cap) (hc2 : cap ≤ 9223372036854775807) (hs : ∀ s ∈ ws, s.length ≤ 9223372036854775807) : Wds W (some ⟨g, 0, none⟩) cap ws := by
  refine ⟨hc, hc2, hs, .inr ⟨g, 0, rfl, hlt, fun k hk => ?_⟩⟩
  have := (h k (by simpa using hk)).1
  rw [this, getD_eq hk]
  simp [hk]

theorem hrow_of {w W : World} {v : Value} {ws : List St.Bs} (h : W.ownsRow (w.heap.size + 1) 9 1 v ws.length (wcells ws)) (hb : Below w.heap.size w W) (hs : ∀ s ∈ ws, s.length ≤ 9223372036854775807) : HRow w v ws W := by
  obtain ⟨a, cap, rfl, hwd, hown⟩ := wds_of_row h hs
  refine ⟨a, cap, rfl, hwd, fun hne => ?_, hb⟩
  obtain ⟨g, rfl, h1, h2, h3⟩ := hown hne
  refine ⟨g, rfl, by omega, h2, fun j hj => ⟨?_, h3 _⟩⟩
  have hl : 0 < ws.length := List.length_pos_iff.2 hne
  obtain ⟨b, off, he, _, hc⟩ := hwd.get hl
  cases he
  simp only [List.size_toArray] at hj
  rw [hc j hj, getD_eq hj]
  simp [hj]

theorem putRow_keeps {w W : World} {g n : Nat} {d : Array St.Bs} {os : Array Obj} (hg : w.heap.size ≤ g) (hb : Below w.heap.size w W) : Below w.heap.size w (Go.Sort.grow (Go.Sort.putRow encStr (Go.Sort.ahead W n) g 0 d) os) := by
  refine hb.trans ⟨rfl, rfl, rfl, ?_, ?_⟩
  · rw [Go.Sort.size_grow, Go.Sort.size_putRow]
    show W.heap.size ≤ W.heap.size + os.size
    omega
  · intro k hk
    have hkW : k < W.heap.size := Nat.lt_of_lt_of_le hk hb.size
    rw [Go.Sort.heap_grow_old _ _ (by rw [Go.Sort.size_putRow]; exact hkW)]
    simp only [Go.Sort.putRow, Go.Sort.mapBlock]
    show (W.heap.modify g _)[k]? = _
    rw [Array.getElem?_modify, if_neg (fun e => by omega)]

/-- slices.Sort at such a row. -/
theorem sort_any {w W : World} {v : Value} {ws : List St.Bs} (h : HRow w v ws W) (hn : ws.length ≤ 1000000) :
    Calls Try.prog 34 #[v] W fun e W' => e = .returned (.tuple #[]) ∧ HRow w v (St.sortS ws) W' := by
  obtain ⟨a, cap, rfl, hwd, hown, hb⟩ := h
  by_cases hz : ws = []
  · subst hz
    refine (Try.slices_Sort_string_none a cap W).mono ?_
    rintro e W' ⟨he, rfl⟩
    rw [show St.sortS [] = [] by simp [St.sortS]]
    exact ⟨he, a, cap, rfl, hwd, fun h => (h rfl).elim, hb⟩
  · obtain ⟨g, rfl, h1, h2, hH⟩ := hown hz
    refine (Try.slices_Sort_string g 0 cap ws W hH h2 (by omega)).mono ?_
    rintro e W' ⟨he, n, os, rfl⟩
    have hsz : (St.sortS ws).toArray.size = ws.toArray.size := by simp [St.sort_len]
    have hh : Go.Sort.Holds encStr (Go.Sort.grow (Go.Sort.putRow encStr (Go.Sort.ahead W n) g 0 (St.sortS ws).toArray) os) g 0 (St.sortS ws).toArray :=
      Go.Sort.holds_grow _ _ _ _ _ _ (by simpa [Go.Sort.ahead] using h2) (Go.Sort.holds_putRow _ _ _ _ ws.toArray _ (Go.Sort.holds_ahead _ _ _ _ _ _ hH) hsz)
    have hlt : g < (Go.Sort.grow (Go.Sort.putRow encStr (Go.Sort.ahead W n) g 0 (St.sortS ws).toArray) os).heap.size := by
      rw [Go.Sort.size_grow, Go.Sort.size_putRow]
      show g < W.heap.size + os.size
      omega
    exact ⟨he, _, cap, by rw [St.sort_len], holds_wds hh hlt (by rw [St.sort_len]; exact hwd.1) hwd.2.1 (fun s hs => hwd.2.2.1 s (St.mem_sort.1 hs)), fun _ => ⟨g, rfl, h1, hlt, hh⟩, putRow_keeps h1 hb⟩

theorem compact_len (ws : List St.Bs) : (Lib.compact ws).length ≤ ws.length := by
  unfold Lib.compact Lib.compactUpTo
  rw [List.length_map]
  exact Nat.le_trans (List.length_filter_le _ _) (by simp)

theorem holds_left {W : World} {g : Nat} {xs ys : List St.Bs} (h : Go.Sort.Holds encStr W g 0 (xs ++ ys).toArray) : Go.Sort.Holds encStr W g 0 xs.toArray := by
  intro j hj
  simp only [List.size_toArray] at hj
  have := h j (by simp; omega)
  refine ⟨?_, this.2⟩
  rw [this.1]
  simp [hj, show j < xs.length + ys.length by omega]

/-- slices.Compact at such a row. -/
theorem compact_any {w W : World} {v : Value} {ws : List St.Bs} (h : HRow w v ws W) :
    Calls Try.prog 24 #[v] W fun e W' => ∃ u, e = .returned u ∧ HRow w u (Lib.compact ws) W' := by
  obtain ⟨a, cap, rfl, hwd, hown, hb⟩ := h
  by_cases hz : ws = []
  · subst hz
    refine (Try.slices_Compact_string_empty a cap W).mono ?_
    rintro e W' ⟨he, rfl⟩
    exact ⟨_, he, a, cap, rfl, hwd, fun h => (h rfl).elim, hb⟩
  · obtain ⟨g, rfl, h1, h2, hH⟩ := hown hz
    refine (Try.slices_Compact_string g 0 cap ws W hH (Nat.le_trans hwd.1 hwd.2.1) hwd.1).mono ?_
    rintro e W' ⟨he, n, rfl⟩
    have hcl := compact_len ws
    have hsz : (Lib.compact ws ++ List.replicate (ws.length - (Lib.compact ws).length) []).toArray.size = ws.toArray.size := by simp; omega
    have hh := holds_left (Go.Sort.holds_putRow encStr (Go.Sort.ahead W n) g 0 ws.toArray (Lib.compact ws ++ List.replicate (ws.length - (Lib.compact ws).length) []).toArray (Go.Sort.holds_ahead _ _ _ _ _ _ hH) hsz)
    have hlt : g < (Go.Sort.putRow encStr (Go.Sort.ahead W n) g 0 (Lib.compact ws ++ List.replicate (ws.length - (Lib.compact ws).length) []).toArray).heap.size := by
      rw [Go.Sort.size_putRow]
      exact h2
    refine ⟨_, he, _, cap, rfl, holds_wds hh hlt (Nat.le_trans hcl hwd.1) hwd.2.1 (fun s hs => hwd.2.2.1 s ((St.mem_compact ws s).1 hs)), fun _ => ⟨g, rfl, h1, hlt, hh⟩, ?_⟩
    have := putRow_keeps (n := n) (d := (Lib.compact ws ++ List.replicate (ws.length - (Lib.compact ws).length) []).toArray) (os := #[]) h1 hb
    simp [Go.Sort.grow] at this
    exact this

set_option maxRecDepth 100000 in
set_option maxHeartbeats 2000000 in
theorem sorted_any (gf : Nat) (lb : Array Value) (eg : ∀ args w, (callFunc gf args).run Try.prog w = .ok (.enter gf args) w) (N : Nat) (ws : List St.Bs) (w0 w : World) (hN : N ≤ 1000000) (hb0 : Below w0.heap.size w0 w) (hl : ws.length ≤ 1000000) (hs : ∀ s ∈ ws, OkW s)
    (hseq : SeqB OkW false Try.prog gf lb encW (fun k => k < w0.heap.size) (fun _ => False) (fun ys => ys = ws) (fun _ => False) N w0) :
    CallsIn Fence.wide 0 Try.prog 25 #[.func (.func gf) #[] lb] w fun e W' => ∃ u, e = .returned u ∧ HRow w u (St.sortS ws) W' := by
  have hc := collect_any gf lb eg (fun k => k < w0.heap.size) (fun ys => ys = ws) (fun _ => False) N w0 w hN hseq hb0 (fun k h => Nat.lt_of_lt_of_le h hb0.size)
  have hS : ∀ W v, HRow w v ws W → CallsIn Fence.wide 0 Try.prog 34 #[v] W fun e W' => e = .returned (.tuple #[]) ∧ HRow w v (St.sortS ws) W' := fun W v h => callsIn_wide.2 (sort_any h hl)
  have HS := Lib.hid hS
  have HO : Hid (∀ s ∈ ws, s.length ≤ 9223372036854775807) := Lib.hid fun s h => by have : s.length ≤ 1000000 := hs s h; omega
  clear hseq hb0 hS hs
  refine callsIn_of_wp Try.func25 rfl trivial ?_ rfl
  simp only [Try.ntmps25, List.size_toArray, List.length_cons, List.length_nil, Nat.reduceAdd, Nat.reduceSub, Array.replicate_succ, Array.replicate_zero, List.push_toArray, List.append_toArray, List.nil_append, List.cons_append]
  gi_wp2_with fail
  refine ⟨trivial, rfl, ?_⟩
  refine hc.mono ?_
  rintro e w2 ⟨v, ys, rfl, rfl, hrow, -, hB⟩
  have HR := Lib.hid (hrow_of hrow hB HO.out)
  clear hrow hB hc
  gi_wp2_with fail
  refine ⟨trivial, rfl, ?_⟩
  refine (HS.out _ _ HR.out).mono ?_
  rintro e w3 ⟨rfl, hR⟩
  have HR3 := Lib.hid hR
  clear hR
  gi_wp2
  go_ret
  exact ⟨_, rfl, HR3.out⟩

/-- Values of texts, just laid. -/
theorem vals_fresh (W : World) (a : Option Addr) (cap : Nat) (xs : List St.Bs) (h : Wds W a cap xs) (h1 : xs.length ≤ 1000000) (h2 : ∀ s ∈ xs, OkW s) :
    SeqB OkW false Try.prog 33 #[.pointer (some ⟨W.heap.size, 0, none⟩)] encW (fun k => k < (W.alloc (.cells #[.slice a xs.length cap] 25)).heap.size) (fun _ => False) (fun ys => ys = xs) (fun _ => False) xs.length (W.alloc (.cells #[.slice a xs.length cap] 25)) := by
  refine seq_false (values_seq W.heap.size a cap xs _ (Boxed.new W _ _) (h.later ((Below.refl _ _).alloc (Nat.le_refl _) _)) h1 h2 (fun k => k < (W.alloc (.cells #[.slice a xs.length cap] 25)).heap.size) _ ?_) (fun _ h => h) (Below.refl _ _)
  intro b off ha h0
  obtain ⟨b', off', ha', hb', -⟩ := h.get h0
  rw [ha] at ha'
  cases ha'
  simp
  omega

set_option maxRecDepth 100000 in
set_option maxHeartbeats 2000000 in
/-- sets.Of. -/
theorem of_any (a : Option Addr) (cap : Nat) (ws : List St.Bs) (w : World) (hW : Wds w a cap ws) (hl : ws.length ≤ 1000000) (hs : ∀ s ∈ ws, OkW s) :
    CallsIn Fence.wide 0 Try.prog 11 #[.slice a ws.length cap] w fun e W' => ∃ u, e = .returned u ∧ RowW w u (St.ofS ws) W' := by
  have hvals := vals_fresh
  have hs1 := sorted_any 33 #[.pointer (some ⟨w.heap.size, 0, none⟩)] (enters_of Try.func33 (by kernel_rfl) rfl) ws.length ws _ _ hl (Below.refl _ _) hl hs (hvals w a cap ws hW hl hs)
  have HC : Hid (∀ W v, HRow (w.alloc (.cells #[.slice a ws.length cap] 25)) v (St.sortS ws) W → CallsIn Fence.wide 0 Try.prog 24 #[v] W fun e W' => ∃ u, e = .returned u ∧ HRow (w.alloc (.cells #[.slice a ws.length cap] 25)) u (St.ofS ws) W') := Lib.hid fun W v h => by
    have := (callsIn_wide (n := 0)).2 (compact_any h)
    rwa [St.compact_sort] at this
  have hol : (St.ofS ws).length ≤ 1000000 := Nat.le_trans (St.of_len ws) hl
  have HSet : Hid (∀ (W : World) (a : Option Addr) (cap : Nat), Wds W a cap (St.ofS ws) → CallsIn Fence.wide 0 Try.prog 22 #[.func (.func 33) #[] #[.pointer (some ⟨W.heap.size, 0, none⟩)]] (W.alloc (.cells #[.slice a (St.ofS ws).length cap] 25)) fun e W' => ∃ u, e = .returned u ∧ RowW (W.alloc (.cells #[.slice a (St.ofS ws).length cap] 25)) u (St.ofS ws) W') := Lib.hid fun W a cap h =>
    set_any 33 #[.pointer (some ⟨W.heap.size, 0, none⟩)] (enters_of Try.func33 (by kernel_rfl) rfl) (St.ofS ws).length (St.ofS ws) _ _ hol (Below.refl _ _) (hvals W a cap (St.ofS ws) h hol fun s hs' => hs s (St.mem_of.1 hs'))
  have HS1 := Lib.hid hs1
  clear hvals hs1 hs hW
  refine callsIn_of_wp Try.func11 rfl trivial ?_ rfl
  simp only [Try.ntmps11, List.size_toArray, List.length_cons, List.length_nil, Nat.reduceAdd, Nat.reduceSub, Array.replicate_succ, Array.replicate_zero, List.push_toArray, List.append_toArray, List.nil_append, List.cons_append]
  gi_wp2_with fail
  refine ⟨trivial, rfl, ?_⟩
  refine (values_any _ _ _ _).mono ?_
  rintro e w1 ⟨rfl, rfl⟩
  gi_wp2_with fail
  refine ⟨trivial, rfl, ?_⟩
  refine HS1.out.mono ?_
  rintro e w2 ⟨u2, rfl, hr2⟩
  have HR2 := Lib.hid hr2
  clear hr2
  gi_wp2_with fail
  refine ⟨trivial, rfl, ?_⟩
  refine (HC.out _ _ HR2.out).mono ?_
  rintro e w3 ⟨u3, rfl, hr3⟩
  obtain ⟨a3, c3, rfl, hwd3, -, hb3⟩ := hr3
  have HW3 := Lib.hid hwd3
  have HB3 := Lib.hid hb3
  clear hwd3 hb3 HR2
  gi_wp2_with fail
  refine ⟨trivial, rfl, ?_⟩
  refine (values_any _ _ _ _).mono ?_
  rintro e w4 ⟨rfl, rfl⟩
  gi_wp2_with fail
  refine ⟨trivial, rfl, ?_⟩
  refine (HSet.out w3 a3 c3 HW3.out).mono ?_
  rintro e w5 ⟨u5, rfl, hr5⟩
  have HR5 := Lib.hid hr5
  clear hr5
  gi_wp2
  go_ret
  have hB1 : Below w.heap.size w (w.alloc (.cells #[.slice a ws.length cap] 25)) := (Below.refl _ _).alloc (Nat.le_refl _) _
  have hB3 : Below w.heap.size w w3 := hB1.trans (HB3.out.mono hB1.size)
  have hB4 := hB3.alloc hB3.size (.cells #[.slice a3 (St.ofS ws).length c3] 25)
  exact ⟨_, rfl, owns_base HR5.out.1 hB4.size, hB4.trans (HR5.out.2.mono hB4.size)⟩
end Go.Proofs.Ytekdmnecjgpokaa
