/- The contract of spans.Has. -/
import Derived.Test.YtlbmkgnfbkimaaaDoorAwake
namespace Go.Proofs.YtlbmkgnfbkimaaaDoor
open Go.RowKit Go.Shelf

set_option maxRecDepth 100000 in
set_option maxHeartbeats 1000000 in
theorem hasFn_any (B : Nat) (s : Sp.S) (n : Int) (W : World) (hb : Boxed W B 3 (.int .i64 n)) :
    Calls Tryd.prog 34 #[.agg #[.int .i64 s.1, .int .i64 s.2], .pointer (some ⟨B, 0, none⟩)] W fun e W' => e = .returned (.bool (decide (s.1 ≤ n ∧ n ≤ s.2))) ∧ Below W.heap.size W W' := by
  have b1 := hb.cell
  have hlt := hb.lt
  have hne : B ≠ W.heap.size := by omega
  by_cases h1 : s.1 ≤ n
  · by_cases h2 : n ≤ s.2
    · go_enter Tryd.func34, Tryd.ntmps34
      go_wp2
      go_ret
      exact ⟨by rw [decide_eq_true ⟨h1, h2⟩]; rfl, (Below.refl _ _).alloc (Nat.le_refl _) _⟩
    · have h2' : s.2 < n := by omega
      go_enter Tryd.func34, Tryd.ntmps34
      go_wp2
      go_ret
      exact ⟨by rw [decide_eq_false (by omega)]; rfl, (Below.refl _ _).alloc (Nat.le_refl _) _⟩
  · have h1' : n < s.1 := by omega
    go_enter Tryd.func34, Tryd.ntmps34
    go_wp2
    go_ret
    exact ⟨by rw [decide_eq_false (by omega)]; rfl, (Below.refl _ _).alloc (Nat.le_refl _) _⟩

/-- whether a span of the list holds n. -/
def anyB (l : List Sp.S) (n : Int) : Bool := l.any fun s => decide (s.1 ≤ n ∧ n ≤ s.2)

theorem anyB_has (l : List Sp.S) {n : Int} (h0 : 0 ≤ n) (h1 : n < 16384) : anyB l n = Sp.hasB l n := by
  unfold anyB Sp.hasB
  congr 1
  funext s
  rw [Sp.inB_iff h0 h1]

theorem anyB_take {l : List Sp.S} {k : Nat} (hk : k < l.length) (n : Int) : anyB (l.take (k + 1)) n = (anyB (l.take k) n || decide ((l.getD k (0, 0)).1 ≤ n ∧ n ≤ (l.getD k (0, 0)).2)) := by
  unfold anyB
  rw [List.take_succ_eq_append_getElem hk, List.any_append]
  simp [List.getD, hk]

theorem anyB_of {l : List Sp.S} {k : Nat} (hk : k < l.length) {n : Int} (h : decide ((l.getD k (0, 0)).1 ≤ n ∧ n ≤ (l.getD k (0, 0)).2) = true) : anyB l n = true := by
  unfold anyB
  rw [List.any_eq_true]
  have e : l.getD k (0, 0) = l[k] := by simp [List.getD, hk]
  exact ⟨l[k], List.getElem_mem hk, e ▸ h⟩

set_option maxRecDepth 100000 in
set_option maxHeartbeats 4000000 in
theorem indexFn_some (B b off cap : Nat) (l : List Sp.S) (n : Int) (w : World) (hB : Boxed w B 3 (.int .i64 n)) (hl : l.length ≤ 1000000) (hb : b < w.heap.size)
    (hc : ∀ k, k < l.length → w.cell? ⟨b, off + k * 2, none⟩ = some (.int .i64 (l.getD k (0, 0)).1) ∧ w.cell? ⟨b, off + k * 2 + 1, none⟩ = some (.int .i64 (l.getD k (0, 0)).2)) :
    Calls Tryd.prog 51 #[.slice (some ⟨b, off, none⟩) l.length cap, .func (.func 34) #[] #[.pointer (some ⟨B, 0, none⟩)]] w fun e w' => (∃ i : Int, e = .returned (.int .i64 i) ∧ decide (0 ≤ i) = anyB l n) ∧ Below w.heap.size w w' := by
  have HC := Lib.hid hc
  have HBX := Lib.hid hB
  clear hc hB
  have eg : ∀ args w, (callFunc 34 args).run Tryd.prog w = .ok (.enter 34 args) w := enters_of Tryd.func34 (by kernel_rfl) rfl
  go_enter Tryd.func51, Tryd.ntmps51
  go_wp2
  go_loopw [4, 8] (fun r i wr => ∃ k : Nat, k ≤ l.length ∧ r = .int .i64 0 ∧ i = .int .i64 k ∧ Hid (anyB (l.take k) n = false) ∧ Hid (Below w.heap.size w wr)) (fun _ i _ => l.length - (intOf i).toNat)
  case atStart => exact ⟨0, Nat.zero_le _, rfl, rfl, Lib.hid (by simp [anyB]), Lib.hid (Below.refl _ _)⟩
  case round =>
    obtain ⟨k, hk, rfl, rfl, HK, HB⟩ := hrel
    by_cases hlt : k < l.length
    · obtain ⟨c1, c2⟩ := HC.out k hlt
      rw [← HB.out.cell (p := ⟨b, off + k * 2, none⟩) hb] at c1
      rw [← HB.out.cell (p := ⟨b, off + k * 2 + 1, none⟩) hb] at c2
      have HOF := Lib.hid (fun (h : _) => anyB_of (n := n) hlt h)
      have HTK := Lib.hid (anyB_take hlt n)
      generalize l.getD k (0, 0) = s at c1 c2 HOF HTK
      have hcl := hasFn_any B s n wr ((HB.out.block B HBX.out.lt).trans HBX.out)
      cases hd : decide (s.1 ≤ n ∧ n ≤ s.2) with
      | true =>
        rw [hd] at hcl
        have HA := Lib.hid (HOF.out hd)
        clear hd
        go_wp2_with (go_at_call 34; refine hcl.mono ?_; rintro e w1 ⟨rfl, hb1⟩; have HB1 := Lib.hid hb1; clear hb1)
        go_ret
        exact ⟨⟨(k : Int), rfl, by rw [HA.out]; simp⟩, HB.out.trans (HB1.out.mono HB.out.size)⟩
      | false =>
        rw [hd] at hcl
        have HA : Hid (anyB (l.take (k + 1)) n = false) := Lib.hid (by rw [HTK.out, HK.out, hd]; rfl)
        clear hd
        go_wp2_with (go_at_call 34; refine hcl.mono ?_; rintro e w1 ⟨rfl, hb1⟩; have HB1 := Lib.hid hb1; clear hb1)
        go_roundw
        case rel => exact ⟨k + 1, by omega, rfl, by go_num, HA, Lib.hid (HB.out.trans (HB1.out.mono HB.out.size))⟩
        case measure => simp [intOf]; omega
    · have HA : Hid (anyB l n = false) := Lib.hid (by have := HK.out; rwa [List.take_of_length_le (by omega)] at this)
      go_wp2
      go_ret
      exact ⟨⟨-1, rfl, by rw [HA.out]; rfl⟩, HB.out⟩

set_option maxRecDepth 100000 in
set_option maxHeartbeats 1000000 in
theorem indexFn_nil (B : Nat) (a : Option Addr) (cap : Nat) (n : Int) (w : World) :
    Calls Tryd.prog 51 #[.slice a 0 cap, .func (.func 34) #[] #[.pointer (some ⟨B, 0, none⟩)]] w fun e w' => (∃ i : Int, e = .returned (.int .i64 i) ∧ decide (0 ≤ i) = anyB [] n) ∧ Below w.heap.size w w' := by
  go_enter Tryd.func51, Tryd.ntmps51
  go_wp2
  go_loop [4, 8] (fun r i => r = .int .i64 0 ∧ i = .int .i64 0) (fun _ _ => 0)
  case atStart => exact ⟨rfl, rfl⟩
  case round =>
    obtain ⟨rfl, rfl⟩ := hrel
    go_wp2
    go_ret
    exact ⟨⟨-1, rfl, rfl⟩, Below.refl _ _⟩

theorem indexFn_any (B : Nat) (a : Option Addr) (cap : Nat) (l : List Sp.S) (n : Int) (w : World) (hB : Boxed w B 3 (.int .i64 n)) (hl : l.length ≤ 1000000) (hS : Spans w a cap l) :
    Calls Tryd.prog 51 #[.slice a l.length cap, .func (.func 34) #[] #[.pointer (some ⟨B, 0, none⟩)]] w fun e w' => (∃ i : Int, e = .returned (.int .i64 i) ∧ decide (0 ≤ i) = anyB l n) ∧ Below w.heap.size w w' := by
  obtain ⟨_, _, _, h3⟩ := hS
  rcases h3 with rfl | ⟨b, off, rfl, hb, hc⟩
  · exact indexFn_nil B a cap n w
  · exact indexFn_some B b off cap l n w hB hl hb hc

set_option maxRecDepth 100000 in
set_option maxHeartbeats 1000000 in
theorem containsFn_any (B : Nat) (a : Option Addr) (cap : Nat) (l : List Sp.S) (n : Int) (w : World) (hB : Boxed w B 3 (.int .i64 n)) (hl : l.length ≤ 1000000) (hS : Spans w a cap l) :
    Calls Tryd.prog 33 #[.slice a l.length cap, .func (.func 34) #[] #[.pointer (some ⟨B, 0, none⟩)]] w fun e w' => e = .returned (.bool (anyB l n)) ∧ Below w.heap.size w w' := by
  have hi := indexFn_any B a cap l n w hB hl hS
  clear hS hB
  go_enter Tryd.func33, Tryd.ntmps33
  go_wp2_with (go_at_call 51; refine hi.mono ?_; rintro e w1 ⟨⟨i, rfl, hd⟩, hb1⟩; have HB1 := Lib.hid hb1; have HD := Lib.hid hd; clear hb1 hd)
  go_ret
  exact ⟨by rw [← HD.out]; rfl, HB1.out⟩

set_option maxRecDepth 100000 in
set_option maxHeartbeats 2000000 in
theorem devHas_any (a : Option Addr) (cap : Nat) (l : List Sp.S) (n : Int) (w : World) (hl : l.length ≤ 1000000) (hS : Spans w a cap l) :
    Calls Tryd.prog 16 #[.slice a l.length cap, .int .i64 n] w fun e w' => e = .returned (.bool (Sp.hasB l n)) ∧ Below w.heap.size w w' := by
  have hcf := containsFn_any w.heap.size a cap l n (w.alloc (.cells #[.int .i64 n] 3)) (Boxed.new w 3 _) hl (hS.later ((Below.refl _ _).alloc (Nat.le_refl _) _))
  clear hS
  by_cases h0 : n < 0
  · have HF := Lib.hid (Sp.hasB_out (l := l) (.inl h0))
    go_enter Tryd.func16, Tryd.ntmps16
    go_wp2
    go_ret
    exact ⟨by rw [HF.out]; rfl, (Below.refl _ _).alloc (Nat.le_refl _) _⟩
  · have h0' : 0 ≤ n := by omega
    by_cases h1 : 16384 ≤ n
    · have HF := Lib.hid (Sp.hasB_out (l := l) (.inr h1))
      go_enter Tryd.func16, Tryd.ntmps16
      go_wp2
      go_ret
      exact ⟨by rw [HF.out]; rfl, (Below.refl _ _).alloc (Nat.le_refl _) _⟩
    · have h1' : n < 16384 := by omega
      rw [anyB_has l h0' h1'] at hcf
      go_enter Tryd.func16, Tryd.ntmps16
      go_wp2_with (go_at_call 33; refine hcf.mono ?_; rintro e w1 ⟨rfl, hb1⟩; have HB1 := Lib.hid hb1; clear hb1)
      go_ret
      exact ⟨rfl, ((Below.refl _ _).alloc (Nat.le_refl _) _).trans (HB1.out.mono (by simp))⟩

end Go.Proofs.YtlbmkgnfbkimaaaDoor
