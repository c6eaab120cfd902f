/- The contracts of the program's redirection, below and Read (14.2). -/
import Derived.Test.YtahmddopbmjepaaDoorRC08
import Derived.Test.YtahmddopbmjepaaDoorRC17
import Derived.WalkKit
import Derived.WalkLawsBesides
import Derived.WalkSpells
import Derived.Lib.Hide
import Derived.Outline
import Derived.Below
import Derived.Deep.QuietTactic
import Derived.BigQuiet
import Derived.Lib.AtoiErrMem
import Derived.Lib.AppendIntMem
namespace Go.Proofs.YtahmddopbmjepaaDoor
open Go.RowKit Go.Shelf
attribute [local go_sem] Oper.semAt_some

theorem digs_dec : ∀ u : Nat, Dig.digs u = Lib.decDigits u := by
  intro u
  induction u using Nat.strongRecOn with
  | ind u ih =>
    rw [Dig.digs, Lib.decDigits]
    by_cases h : u < 10
    · rw [if_pos h, dif_pos h]
    · rw [if_neg h, dif_neg h, ih _ (by omega)]
theorem itoa_dec (n : Int) : Lib.itoa n = Dig.dec n := by
  unfold Lib.itoa Dig.dec
  split
  · rw [digs_dec, show n.natAbs = (-n).toNat by omega]
  · rw [digs_dec]
theorem itoa_any (n : Int) (h0 : -9223372036854775808 ≤ n) (h1 : n ≤ 9223372036854775807) (w : World) (ht : Env w) :
    Calls Tryd.prog 52 #[.int .i64 n] w fun e w' => e = .returned (.string ⟨(Dig.dec n).toArray⟩) ∧ Below w.heap.size w w' := by
  refine (Tryd.strconv_Itoa n h0 h1 w ht.tab).mono ?_
  rintro e w' ⟨rfl, k4, os4, rfl⟩
  exact ⟨by rw [itoa_dec], Lib.below_grow w.heap.size w (Nat.le_refl _) k4 os4⟩

theorem dec_len (n : Int) (h0 : -9223372036854775808 ≤ n) (h1 : n ≤ 9223372036854775807) : (Dig.dec n).length ≤ 20 := by
  unfold Dig.dec
  split
  · have := Dig.digs_len20 (u := (-n).toNat) (by omega)
    simp; omega
  · have := Dig.digs_len20 (u := n.toNat) (by omega)
    omega

set_option maxRecDepth 100000 in
set_option maxHeartbeats 2000000 in
theorem redir_any (W : List UInt8) (s n : Int) (w : World) (hE : Env w) (hW : W.length ≤ 100) (s0 : -9223372036854775808 ≤ s) (s1 : s ≤ 9223372036854775807) (n0 : -9223372036854775808 ≤ n) (n1 : n ≤ 9223372036854775807) :
    Calls Tryd.prog 29 #[.string ⟨W.toArray⟩, .int .i64 s, .int .i64 n] w fun e w' => e = .returned (.string ⟨(Rt.redir W s n).toArray⟩) ∧ Below w.heap.size w w' := by
  obtain ⟨S, hS⟩ : ∃ S, Dig.dec s = S := ⟨_, rfl⟩
  obtain ⟨N, hN⟩ : ∃ N, Dig.dec n = N := ⟨_, rfl⟩
  have lS := dec_len s s0 s1
  have lN := dec_len n n0 n1
  have HE := Lib.hid hE
  have H1 : Hid (∀ w1, Below w.heap.size w w1 → Calls Tryd.prog 52 #[.int .i64 s] w1 fun e w' => e = .returned (.string ⟨S.toArray⟩) ∧ Below w1.heap.size w1 w') := Lib.hid fun w1 hb => by rw [← hS]; exact itoa_any s s0 s1 w1 (hE.later hb)
  have H2 : Hid (∀ w1, Below w.heap.size w w1 → Calls Tryd.prog 52 #[.int .i64 n] w1 fun e w' => e = .returned (.string ⟨N.toArray⟩) ∧ Below w1.heap.size w1 w') := Lib.hid fun w1 hb => by rw [← hN]; exact itoa_any n n0 n1 w1 (hE.later hb)
  have HR : Hid (Rt.redir W s n = W ++ 32 :: (S ++ 32 :: N)) := Lib.hid (by unfold Rt.redir; rw [hS, hN])
  rw [hS] at lS
  rw [hN] at lN
  have HB := Lib.hid (Below.refl w.heap.size w)
  clear hS hN hE s0 s1 n0 n1
  go_enter Tryd.func29, Tryd.ntmps29
  go_wp2_with fail
  refine (H1.out _ HB.out).mono ?_
  rintro e w1 ⟨rfl, hb⟩
  have HB1 := Lib.hid (HB.out.trans (hb.mono HB.out.size))
  clear hb
  go_wp2_with fail
  refine (H2.out _ HB1.out).mono ?_
  rintro e w2 ⟨rfl, hb⟩
  have HB2 := Lib.hid (HB1.out.trans (hb.mono HB1.out.size))
  clear hb
  go_wp2
  go_ret
  refine ⟨?_, HB2.out⟩
  rw [HR.out]
  have e1 : (⟨W.toArray⟩ : ByteArray) ++ ⟨#[32]⟩ ++ ⟨S.toArray⟩ ++ ⟨#[32]⟩ ++ ⟨N.toArray⟩ = ⟨(W ++ 32 :: (S ++ 32 :: N)).toArray⟩ := by
    apply ByteArray.ext; simp
  rw [e1]
  rfl

set_option maxRecDepth 100000 in
set_option maxHeartbeats 2000000 in
theorem below_any (x : List UInt8) (bound : Nat) (w : World) (hE : Env w) (hx : x.length ≤ 1000000) (hb : 0 < bound) (hb2 : bound ≤ 1000000) :
    Calls Tryd.prog 34 #[.string ⟨x.toArray⟩, .int .i64 bound] w fun e w' => ∃ n : Nat, Rt.Low x bound n ∧ e = .returned (.int .i64 n) ∧ Below w.heap.size w w' := by
  have hsz : (⟨x.toArray⟩ : ByteArray).size = x.length := by simp [ByteArray.size]
  have HB := Lib.hid (Below.refl w.heap.size w)
  have hno : (∀ v, Lib.atoiAll x ≠ .ok v) → Rt.Low x bound 0 := fun h => ⟨hb, fun a ha e => by
    rw [e] at h
    exact (h _ (Rt.atoi_dec (by omega))).elim⟩
  cases hat : Lib.atoiAll x with
  | ok v =>
    have hA := Tryd.strconv_Atoi_ok ⟨x.toArray⟩ (by rw [hsz]; omega) v (by simpa using hat)
    have HA : Hid (∀ W, Calls Tryd.prog 54 #[.string ⟨x.toArray⟩] W fun e w3 => e = .returned (.tuple #[.int .i64 v, .nilIface]) ∧ Below W.heap.size W w3) := Lib.hid fun W => (hA W).mono fun e w3 ⟨he, hb3⟩ => ⟨he, by
      rcases hb3 with rfl | ⟨t, rfl⟩
      · exact Below.refl _ _
      · exact Lib.bytesWorld_below W _ t⟩
    have HL : Hid (0 ≤ v → v < (bound : Int) → Rt.Low x bound v.toNat) := Lib.hid fun h1 h2 => ⟨by omega, fun a ha e => by
      rw [e, Rt.atoi_dec (by omega)] at hat
      injection hat with hat
      omega⟩
    have HN : Hid ((v < 0 ∨ (bound : Int) ≤ v) → Rt.Low x bound 0) := Lib.hid fun h => ⟨hb, fun a ha e => by
      rw [e, Rt.atoi_dec (by omega)] at hat
      injection hat with hat
      omega⟩
    clear hA hat hno hE
    have hbI : (bound : Int) ≤ 1000000 := by omega
    go_enter Tryd.func34, Tryd.ntmps34
    go_wp2_with fail
    refine (HA.out _).mono ?_
    rintro e w1 ⟨rfl, hb1⟩
    have HB1 := Lib.hid hb1
    clear hb1
    by_cases c1 : v < 0
    · have HZ := Lib.hid (HN.out (.inl c1))
      go_wp2
      go_ret
      exact ⟨0, HZ.out, rfl, HB1.out⟩
    · by_cases c2 : (bound : Int) ≤ v
      · have HZ := Lib.hid (HN.out (.inr c2))
        go_wp2
        go_ret
        exact ⟨0, HZ.out, rfl, HB1.out⟩
      · have HZ := Lib.hid (HL.out (by omega) (by omega))
        go_wp2
        go_ret
        exact ⟨v.toNat, HZ.out, by rw [Int.toNat_of_nonneg (by omega)]; rfl, HB1.out⟩
  | «syntax» =>
    obtain ⟨te, pe, hev⟩ := hE.syn
    have HA := Lib.hid (Tryd.strconv_Atoi_syntax ⟨x.toArray⟩ (by rw [hsz]; omega) (by simpa using hat) _ w hev (.inr ⟨_, _, rfl⟩))
    have HZ := Lib.hid (hno (fun v h => by rw [h] at hat; cases hat))
    clear hat hno hE hev
    go_enter Tryd.func34, Tryd.ntmps34
    go_wp2_with fail
    refine (HA.out).mono ?_
    rintro e w1 ⟨N, rfl, -, -, hb1⟩
    have HB1 := Lib.hid hb1
    clear hb1
    go_wp2
    go_ret
    exact ⟨0, HZ.out, rfl, HB1.out⟩
  | range =>
    obtain ⟨te, pe, hev⟩ := hE.rng
    have HA := Lib.hid (Tryd.strconv_Atoi_range ⟨x.toArray⟩ (by rw [hsz]; omega) (by simpa using hat) _ w hev (.inr ⟨_, _, rfl⟩))
    have HZ := Lib.hid (hno (fun v h => by rw [h] at hat; cases hat))
    obtain ⟨sat, hsat⟩ : ∃ sat, Lib.atoiSat x = sat := ⟨_, rfl⟩
    have HA2 : Hid (Calls Tryd.prog 54 #[.string ⟨x.toArray⟩] w fun e w3 => ∃ te pe, e = .returned (.tuple #[.int .i64 sat, .iface te pe]) ∧ Below w.heap.size w w3) := Lib.hid (HA.out.mono fun e w3 ⟨N, he, _, _, hb3⟩ => ⟨139, .pointer (some ⟨N, 0, none⟩), by rw [he, ← hsat], hb3⟩)
    have hs2 := Lib.atoiSat_bounds x
    rw [hsat] at hs2
    clear hat hno hE hev HA hsat
    go_enter Tryd.func34, Tryd.ntmps34
    go_wp2_with fail
    refine (HA2.out).mono ?_
    rintro e w1 ⟨te, pe, rfl, hb1⟩
    have HB1 := Lib.hid hb1
    clear hb1
    go_wp2
    go_ret
    exact ⟨0, HZ.out, rfl, HB1.out⟩
end Go.Proofs.YtahmddopbmjepaaDoor
