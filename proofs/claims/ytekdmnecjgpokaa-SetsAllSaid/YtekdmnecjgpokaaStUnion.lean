/- The contracts of sets.union and sets.Union. -/
import Derived.Test.YtekdmnecjgpokaaStChosen
import Derived.Test.YtekdmnecjgpokaaStOf
import Derived.Deep.RegionHeld3
import Derived.LoopTactic
namespace Go.Proofs.Ytekdmnecjgpokaa
open Go.RowKit Go.Shelf
attribute [local go_sem] Oper.semAt_some
set_option linter.unusedVariables false
set_option linter.unusedSimpArgs false

/-- rows of texts in a slice. -/
def Wss (w : World) (a : Option Addr) (cap : Nat) (L : List (List St.Bs)) : Prop :=
  L.length ≤ cap ∧ cap ≤ 9223372036854775807 ∧ (L = [] ∨ ∃ b off, a = some ⟨b, off, none⟩ ∧ b < w.heap.size ∧ ∀ k, k < L.length → ∃ a' c', w.cell? ⟨b, off + k, none⟩ = some (.slice a' (L.getD k []).length c') ∧ Wds w a' c' (L.getD k []) ∧ (a' = none → c' = 0))

theorem Wss.later {w w' : World} {a : Option Addr} {cap : Nat} {L : List (List St.Bs)} (h : Wss w a cap L) (hb : Below w.heap.size w w') : Wss w' a cap L := by
  obtain ⟨h0, h1, h2⟩ := h
  refine ⟨h0, h1, h2.imp id ?_⟩
  rintro ⟨b, off, ha, hlt, hc⟩
  refine ⟨b, off, ha, Nat.lt_of_lt_of_le hlt hb.size, fun k hk => ?_⟩
  obtain ⟨a', c', q1, q2, q3⟩ := hc k hk
  exact ⟨a', c', (hb.cell (p := ⟨b, off + k, none⟩) hlt).trans q1, q2.later hb, q3⟩
theorem Wss.get {w : World} {a : Option Addr} {cap : Nat} {L : List (List St.Bs)} (h : Wss w a cap L) (h0 : 0 < L.length) :
    ∃ b off, a = some ⟨b, off, none⟩ ∧ b < w.heap.size ∧ ∀ k, k < L.length → ∃ a' c', w.cell? ⟨b, off + k, none⟩ = some (.slice a' (L.getD k []).length c') ∧ Wds w a' c' (L.getD k []) ∧ (a' = none → c' = 0) := by
  rcases h.2.2 with rfl | h
  · simp at h0
  · exact h
theorem Wss.take {w : World} {a : Option Addr} {cap : Nat} {L : List (List St.Bs)} (h : Wss w a cap L) (n : Nat) : Wss w a cap (L.take n) := by
  obtain ⟨h0, h1, h2⟩ := h
  refine ⟨by rw [List.length_take]; omega, h1, ?_⟩
  rcases h2 with rfl | ⟨b, off, ha, hlt, hc⟩
  · left; simp
  · refine .inr ⟨b, off, ha, hlt, fun k hk => ?_⟩
    rw [List.length_take] at hk
    have := hc k (by omega)
    have e : (L.take n).getD k [] = L.getD k [] := by rw [getD_eq (l := L) (by omega), getD_eq (by rw [List.length_take]; exact hk), List.getElem_take]
    rw [e]
    exact this
theorem Wss.drop {w : World} {b off cap : Nat} {L : List (List St.Bs)} (h : Wss w (some ⟨b, off, none⟩) cap L) (n : Nat) (hn : n ≤ L.length) : Wss w (some ⟨b, off + n, none⟩) (cap - n) (L.drop n) := by
  obtain ⟨h0, h1, h2⟩ := h
  refine ⟨by rw [List.length_drop]; omega, by omega, ?_⟩
  rcases h2 with rfl | ⟨b', off', he, hlt, hc⟩
  · left; simp
  · cases he
    refine .inr ⟨b, off + n, rfl, hlt, fun k hk => ?_⟩
    rw [List.length_drop] at hk
    have := hc (n + k) (by omega)
    have e : (L.drop n).getD k [] = L.getD (n + k) [] := by rw [getD_eq (l := L) (by omega), getD_eq (by rw [List.length_drop]; exact hk), List.getElem_drop]
    rw [e, Nat.add_assoc]
    exact this

/-- a set handed back, in a row however it lies. -/
def UOut (w : World) (zs : List St.Bs) (e : Ending) (W' : World) : Prop := ∃ a' c', e = .returned (.slice a' zs.length c') ∧ Wds W' a' c' zs ∧ Below w.heap.size w W'

/-- sets that are handed in. -/
def SetsIn (L : List (List St.Bs)) : Prop := (∀ l ∈ L, Mk.upS l) ∧ (∀ l ∈ L, ∀ s ∈ l, OkW s) ∧ L.flatten.length ≤ 400000
theorem SetsIn.take {L : List (List St.Bs)} (h : SetsIn L) (n : Nat) : SetsIn (L.take n) := by
  refine ⟨fun l hl => h.1 l (List.mem_of_mem_take hl), fun l hl => h.2.1 l (List.mem_of_mem_take hl), ?_⟩
  have e : (L.take n).flatten.length + (L.drop n).flatten.length = L.flatten.length := by rw [← List.length_append, ← List.flatten_append, List.take_append_drop]
  have := h.2.2
  omega
theorem SetsIn.drop {L : List (List St.Bs)} (h : SetsIn L) (n : Nat) : SetsIn (L.drop n) := by
  refine ⟨fun l hl => h.1 l (List.mem_of_mem_drop hl), fun l hl => h.2.1 l (List.mem_of_mem_drop hl), ?_⟩
  have e : (L.take n).flatten.length + (L.drop n).flatten.length = L.flatten.length := by rw [← List.length_append, ← List.flatten_append, List.take_append_drop]
  have := h.2.2
  omega
theorem SetsIn.uni {L : List (List St.Bs)} (h : SetsIn L) : (St.uniS L).length ≤ 400000 ∧ Mk.upS (St.uniS L) ∧ ∀ s ∈ St.uniS L, OkW s := by
  refine ⟨Nat.le_trans (St.uni_len L) h.2.2, St.uni_up L, fun s hs => ?_⟩
  obtain ⟨l, hl, hsl⟩ := St.mem_uni.1 hs
  exact h.2.1 l hl s hsl

/-- Collect over what chosen has made. -/
theorem collect_chosen (gw : Nat) (f : Bool → Bool → Bool) (hw : TestOf gw f) (a b : Option Addr) (ca cb : Nat) (xs ys : List St.Bs) (w : World) (h2 : Wds w a ca xs) (h3 : Wds w b cb ys) (hn : xs.length ≤ 400000) (hm : ys.length ≤ 400000) (hok : ∀ s ∈ xs, OkW s) (hok2 : ∀ s ∈ ys, OkW s) :
    SeqB OkW false Try.prog 38 #[.pointer (some ⟨w.heap.size, 0, none⟩), .pointer (some ⟨w.heap.size + 1, 0, none⟩), .pointer (some ⟨w.heap.size + 2, 0, none⟩)] encW (fun k => k < (chW w a b xs.length ys.length ca cb gw).heap.size) (fun _ => False) (fun zs => zs = St.selS f xs ys) (fun _ => False) (xs.length + ys.length) (chW w a b xs.length ys.length ca cb gw) ∧
      Below w.heap.size w (chW w a b xs.length ys.length ca cb gw) := by
  have hB : Below w.heap.size w (chW w a b xs.length ys.length ca cb gw) := (((Below.refl _ w).alloc (Nat.le_refl _) _).alloc (by simp) _).alloc (by simp; omega) _
  have k1 := Boxed.new w 25 (.slice a xs.length ca)
  have k2 := Boxed.new (w.alloc (.cells #[.slice a xs.length ca] 25)) 25 (.slice b ys.length cb)
  have k3 := Boxed.new ((w.alloc (.cells #[.slice a xs.length ca] 25)).alloc (.cells #[.slice b ys.length cb] 25)) 50 (.func (.func gw) #[] #[])
  rw [World.size_alloc] at k2
  rw [World.size_alloc, World.size_alloc] at k3
  exact ⟨chosen_seq w.heap.size gw f a b ca cb xs ys _ hw ((k1.alloc _).alloc _) (k2.alloc _) k3 (h2.later hB) (h3.later hB) (by omega) (by omega) hok hok2, hB⟩

set_option maxRecDepth 100000 in
set_option maxHeartbeats 4000000 in
theorem union_any : ∀ (n : Nat) (L : List (List St.Bs)) (a : Option Addr) (cap : Nat) (w : World), L.length ≤ n → Wss w a cap L → SetsIn L → L.length ≤ 1000 →
    Calls Try.prog 30 #[.slice a L.length cap] w (UOut w (St.uniS L)) := by
  intro n
  induction n with
  | zero =>
    intro L a cap w hl hW hS _
    obtain rfl : L = [] := List.eq_nil_of_length_eq_zero (by omega)
    clear hW hS hl
    simp only [List.length_nil]
    go_enter Try.func30, Try.ntmps30
    go_wp2
    go_ret
    exact ⟨none, 0, rfl, wds_nil _, Below.refl _ _⟩
  | succ n ih =>
    intro L a cap w hl hW hS hL
    have HW := Lib.hid hW
    have HS := Lib.hid hS
    rcases Nat.lt_or_ge L.length 2 with h2 | h2
    · rcases Nat.eq_zero_or_pos L.length with h0 | h0
      · obtain rfl : L = [] := List.eq_nil_of_length_eq_zero h0
        exact ih [] a cap w (by simp) hW hS (by simp)
      · obtain ⟨l, rfl⟩ : ∃ l, L = [l] := List.length_eq_one_iff.1 (by omega)
        obtain ⟨b, off, rfl, hb, hc⟩ := hW.get (by simp)
        obtain ⟨a', c', q1, q2, -⟩ := hc 0 (by simp)
        simp at q1 q2
        have HQ := Lib.hid q2
        have HU := Lib.hid (St.uni_one (hS.1 l (by simp)))
        clear hW hS hc q2 hl h2 h0 hL
        simp only [List.length_singleton]
        go_enter Try.func30, Try.ntmps30
        go_wp2
        go_ret
        exact ⟨a', c', by rw [HU.out]; rfl, by rw [HU.out]; exact HQ.out, Below.refl _ _⟩
    · obtain ⟨b, off, rfl, hb, hc⟩ := hW.get (by omega)
      obtain ⟨m, hm⟩ : ∃ m, L.length = m := ⟨_, rfl⟩
      rw [hm]
      have HM := Lib.hid hm
      have hm2 : 2 ≤ m := by omega
      have hm3 : m ≤ 1000 := by omega
      have HN : Hid (m ≤ n + 1) := Lib.hid (by omega)
      have hmI : (m : Int) ≤ 1000 := by omega
      have hmI2 : (2 : Int) ≤ (m : Int) := by omega
      have hn0 : ¬ m = 0 := by omega
      have hn1 : ¬ m = 1 := by omega
      have hd0 : decide (m = 0) = false := by simpa using hn0
      have hd1 : decide (m = 1) = false := by simpa using hn1
      have hcap : (m : Int) ≤ (cap : Int) := by have := hW.1; omega
      obtain ⟨h, hh⟩ : ∃ h, m / 2 = h := ⟨_, rfl⟩
      have hh0 : 0 < h := by omega
      have hhm : h < m := by omega
      have hhc : h < cap := by have := hW.1; omega
      have hhI : ((m : Int) / 2) = (h : Int) := by omega
      have HHI := Lib.hid hhI
      obtain ⟨u1, hu1⟩ : ∃ u1, St.uniS (L.take h) = u1 := ⟨_, rfl⟩
      obtain ⟨u2, hu2⟩ : ∃ u2, St.uniS (L.drop h) = u2 := ⟨_, rfl⟩
      have HU : Hid (St.selS St.orF u1 u2 = St.uniS L) := Lib.hid (by rw [← hu1, ← hu2]; exact St.uni_cut L h)
      have s1 := (hS.take h).uni
      have s2 := (hS.drop h).uni
      rw [hu1] at s1
      rw [hu2] at s2
      have HS1 := Lib.hid s1
      have HS2 := Lib.hid s2
      have i1 : ∀ W, Below w.heap.size w W → Calls Try.prog 30 #[.slice (some ⟨b, off, none⟩) h cap] W (UOut W u1) := fun W hb => by
        have := ih (L.take h) (some ⟨b, off, none⟩) cap W (by rw [List.length_take]; omega) ((hW.take h).later hb) (hS.take h) (by rw [List.length_take]; omega)
        rwa [hu1, List.length_take, Nat.min_eq_left (by omega)] at this
      have i2 : ∀ W, Below w.heap.size w W → Calls Try.prog 30 #[.slice (some ⟨b, off + h, none⟩) (m - h) (cap - h)] W (UOut W u2) := fun W hb => by
        have := ih (L.drop h) (some ⟨b, off + h, none⟩) (cap - h) W (by rw [List.length_drop]; omega) ((hW.drop h (by omega)).later hb) (hS.drop h) (by rw [List.length_drop]; omega)
        rwa [hu2, List.length_drop, hm] at this
      have I1 := Lib.hid i1
      have I2 := Lib.hid i2
      have hhI1 : (h : Int) ≤ (cap : Int) := by omega
      have hhI2 : (h : Int) ≤ (m : Int) := by omega
      have hne : ¬ cap = h := by omega
      have hne' : decide (cap = h) = false := by simpa using hne
      clear hW hS hc hl h2 hL hm hh hhI hu1 hu2 s1 s2 i1 i2 ih
      go_enter Try.func30, Try.ntmps30
      go_wp2
      rw [HHI.out]
      go_region_held3 (fun _ => True) (trivial)
        (first
          | (go_at_call 30; ((with_reducible refine (I1.out _ ((Below.refl _ _).drew)).mono ?_); rintro e w1 ⟨a1, c1, rfl, hw1, hb1⟩; have HBB1 : Hid (Below w.heap.size w w1) := Lib.hid (((Below.refl _ w).drew).trans (hb1.mono (Nat.le_refl _))); have HW1 := Lib.hid hw1; clear hw1 hb1))
          | (go_at_call 30; ((with_reducible refine (I2.out _ HBB1.out).mono ?_); rintro e w2 ⟨a2, c2, rfl, hw2, hb2⟩; have HBB2 : Hid (Below w.heap.size w w2) := Lib.hid (HBB1.out.trans (hb2.mono HBB1.out.size)); replace HW1 := Lib.hid (HW1.out.later hb2); have HW2 := Lib.hid hw2; clear hw2 hb2))
          | (go_at_call 28; (refine (callsIn_wide.1 (chosen_any _ _ _ _ _ _ _ _)).mono ?_; rintro e w3 ⟨rfl, rfl⟩))
          | (go_at_call 27; (refine (callsIn_wide.1 (collect_any _ _ (enters_of Try.func38 (by kernel_rfl) rfl) _ _ _ _ _ _ (by have := HS1.out.1; have := HS2.out.1; omega) (collect_chosen 40 St.orF or_test a1 a2 c1 c2 u1 u2 w2 HW1.out HW2.out HS1.out.1 HS2.out.1 HS1.out.2.2 HS2.out.2.2).1 (Below.refl _ _) (fun k h => h))).mono ?_; rintro e w4 ⟨v, zs, rfl, rfl, hrow, -, hb4⟩; have HR4 := Lib.hid (And.intro hrow hb4); clear hrow hb4)))
      obtain ⟨hrow, hb4⟩ := HR4.out
      rw [HU.out] at hrow
      obtain ⟨q1, q2, q3⟩ := HS.out.uni
      obtain ⟨a4, c4, rfl, hwd, -⟩ := wds_of_row hrow (fun s hs => by have : s.length ≤ 1000000 := q3 s hs; omega)
      have hbc := (collect_chosen 40 St.orF or_test a1 a2 c1 c2 u1 u2 w2 HW1.out HW2.out HS1.out.1 HS2.out.1 HS1.out.2.2 HS2.out.2.2).2
      have HE : Hid (UOut w (St.uniS L) (.returned (.slice a4 (St.uniS L).length c4)) w4) := Lib.hid ⟨a4, c4, rfl, hwd, (HBB2.out.trans (hbc.mono HBB2.out.size)).trans (hb4.mono (Nat.le_trans HBB2.out.size hbc.size))⟩
      clear hrow hb4 q1 q2 q3 hwd hbc
      go_wp2
      go_ret
      exact HE.out

set_option maxRecDepth 100000 in
set_option maxHeartbeats 4000000 in
/-- sets.Union. -/
theorem Union_any (L : List (List St.Bs)) (a : Option Addr) (cap : Nat) (w : World) (hW : Wss w a cap L) (hS : SetsIn L) (hL : L.length ≤ 1000) :
    Calls Try.prog 16 #[.slice a L.length cap] w fun e W' => ∃ u, e = .returned u ∧ RowW w u (St.uniS L) W' := by
  have HUn := Lib.hid (union_any L.length L a cap w (Nat.le_refl _) hW hS hL)
  obtain ⟨q1, q2, q3⟩ := hS.uni
  have HSet : Hid (∀ (W : World) (a : Option Addr) (cap : Nat), Wds W a cap (St.uniS L) → Calls Try.prog 22 #[.func (.func 33) #[] #[.pointer (some ⟨W.heap.size, 0, none⟩)]] (W.alloc (.cells #[.slice a (St.uniS L).length cap] 25)) fun e W' => ∃ u, e = .returned u ∧ RowW (W.alloc (.cells #[.slice a (St.uniS L).length cap] 25)) u (St.uniS L) W') := Lib.hid fun W a cap h =>
    callsIn_wide.1 (set_any 33 #[.pointer (some ⟨W.heap.size, 0, none⟩)] (enters_of Try.func33 (by kernel_rfl) rfl) (St.uniS L).length (St.uniS L) _ _ (by omega) (Below.refl _ _) (vals_fresh W a cap (St.uniS L) h (by omega) q3))
  clear hW hS q1 q2 q3
  go_enter Try.func16, Try.ntmps16
  go_wp2_with fail
  refine HUn.out.mono ?_
  rintro e w1 ⟨a1, c1, rfl, hw1, hb1⟩
  have HW1 := Lib.hid hw1
  have HB1 := Lib.hid hb1
  clear hw1 hb1
  go_wp2_with fail
  refine (callsIn_wide.1 (values_any _ _ _ _)).mono ?_
  rintro e w2 ⟨rfl, rfl⟩
  go_wp2_with fail
  refine (HSet.out w1 a1 c1 HW1.out).mono ?_
  rintro e w3 ⟨u, rfl, hr⟩
  have HR := Lib.hid hr
  clear hr
  go_wp2
  go_ret
  have hB4 := HB1.out.alloc HB1.out.size (.cells #[.slice a1 (St.uniS L).length c1] 25)
  exact ⟨_, rfl, owns_base HR.out.1 hB4.size, hB4.trans (HR.out.2.mono hB4.size)⟩

set_option maxRecDepth 100000 in
set_option maxHeartbeats 4000000 in
/-- sets.Minus. -/
theorem minus_any (a : Option Addr) (ca : Nat) (xs : List St.Bs) (L : List (List St.Bs)) (b : Option Addr) (cb : Nat) (w : World) (hX : Wds w a ca xs) (hu : Mk.upS xs) (hok : ∀ s ∈ xs, OkW s) (hxl : xs.length ≤ 400000) (hW : Wss w b cb L) (hS : SetsIn L) (hL : L.length ≤ 1000) :
    Calls Try.prog 18 #[.slice a xs.length ca, .slice b L.length cb] w fun e W' => ∃ u, e = .returned u ∧ RowW w u (St.minS xs L) W' := by
  have HUn := Lib.hid (union_any L.length L b cb w (Nat.le_refl _) hW hS hL)
  obtain ⟨q1, q2, q3⟩ := hS.uni
  have HX := Lib.hid hX
  have HSet : Hid (∀ (W : World) (b : Option Addr) (c : Nat), Below w.heap.size w W → Wds W b c (St.uniS L) → Calls Try.prog 22 #[.func (.func 38) #[] #[.pointer (some ⟨W.heap.size, 0, none⟩), .pointer (some ⟨W.heap.size + 1, 0, none⟩), .pointer (some ⟨W.heap.size + 2, 0, none⟩)]] (chW W a b xs.length (St.uniS L).length ca c 31) fun e W' => ∃ u, e = .returned u ∧ RowW W u (St.minS xs L) W') := Lib.hid fun W b c hb h => by
    obtain ⟨k1, k2⟩ := collect_chosen 31 St.notF not_test a b ca c xs (St.uniS L) W (hX.later hb) h hxl q1 hok q3
    rw [St.min_uni hu] at k1
    refine (callsIn_wide.1 (set_any 38 _ (enters_of Try.func38 (by kernel_rfl) rfl) _ (St.minS xs L) _ _ (by omega) (Below.refl _ _) k1)).mono ?_
    rintro e W' ⟨u, rfl, hr⟩
    exact ⟨u, rfl, owns_base hr.1 k2.size, k2.trans (hr.2.mono k2.size)⟩
  clear hW hS q1 q2 q3 hX hok hu
  go_enter Try.func18, Try.ntmps18
  go_wp2_with fail
  refine HUn.out.mono ?_
  rintro e w1 ⟨a1, c1, rfl, hw1, hb1⟩
  have HW1 := Lib.hid hw1
  have HB1 := Lib.hid hb1
  clear hw1 hb1
  go_wp2_with fail
  refine (callsIn_wide.1 (chosen_any _ _ _ _ _ _ _ _)).mono ?_
  rintro e w2 ⟨rfl, rfl⟩
  go_wp2_with fail
  refine (HSet.out w1 a1 c1 HB1.out HW1.out).mono ?_
  rintro e w3 ⟨u, rfl, hr⟩
  have HR := Lib.hid hr
  clear hr
  go_wp2
  go_ret
  exact ⟨_, rfl, owns_base HR.out.1 HB1.out.size, HB1.out.trans (HR.out.2.mono HB1.out.size)⟩
end Go.Proofs.Ytekdmnecjgpokaa
