/- The contracts of claims.since and claims.stretch. -/
import Derived.Test.YtchladbjhodkoaaOwPiece
import Derived.Test.YtchladbjhodkoaaOwBase
import Derived.Deep.QuietTactic
import Derived.BigQuiet
import Derived.RegionTactic
import Derived.BigRegion
import Derived.Deep.RegionHeld3
namespace Go.Proofs.Ytchladbjhodkoaa
open Go.RowKit

theorem ow_cell {fn : Func} {t : Tmp} {T : TypeId} (h : fn.results = #[.cell t T]) {tmps : Array Value} {P : Program} {w : World} {p : Addr} {v : Value} (hp : tmps.getD t undef = .pointer (some p)) (hl : (loadVar T p).run P w = .ok v w) :
    (results fn tmps).run P w = .ok v w := by
  have hp' : tmps[t]?.getD undef = .pointer (some p) := by simpa using hp
  simp [results, h, hp', hl, asAddr]
theorem ow_cellt {fn : Func} {t u : Tmp} {T : TypeId} (h : fn.results = #[.cell t T, .tmp u]) {tmps : Array Value} {P : Program} {w : World} {p : Addr} {v : Value} (hp : tmps.getD t undef = .pointer (some p)) (hl : (loadVar T p).run P w = .ok v w) :
    (results fn tmps).run P w = .ok (.tuple #[v, tmps.getD u undef]) w := by
  have hp' : tmps[t]?.getD undef = .pointer (some p) := by simpa using hp
  simp [results, h, hp', hl, asAddr]
theorem loadOwner (w : World) (b : Nat) (x y : Value) (h0 : w.cell? ⟨b, 0, none⟩ = some x) (h1 : w.cell? ⟨b, 1, none⟩ = some y) : (loadVar 63 ⟨b, 0, none⟩).run Try.prog w = .ok (.agg #[x, y]) w := by
  simp [loadVar, go_sem, h0, h1]

/-- a list without its first claim, as it lies. -/
theorem Cls.tail {w : World} {b off cap : Nat} {c : Ow.C} {r : List Ow.C} (h : Cls w (some ⟨b, off, none⟩) cap (c :: r)) : Cls w (some ⟨b, off + 4, none⟩) (cap - 1) r := by
  obtain ⟨h0, h1, h2, h3⟩ := h
  rw [List.length_cons] at h0
  refine ⟨by omega, by omega, fun d hd => h2 d (by simp [hd]), ?_⟩
  rcases h3 with h3 | ⟨b', off', hp, hb, hc⟩
  · simp at h3
  · simp only [Option.some.injEq, Addr.mk.injEq, and_true] at hp
    obtain ⟨rfl, rfl⟩ := hp
    refine .inr ⟨b, off + 4, rfl, hb, fun k hk => ?_⟩
    have := hc (k + 1) (by simp; omega)
    rw [show off + (k + 1) * 4 = off + 4 + k * 4 by omega] at this
    simpa using this

set_option maxRecDepth 100000 in
set_option maxHeartbeats 2000000 in
theorem since_any (a : Option Addr) (cap : Nat) (l : List Ow.C) (n : Int) (w : World) (hS : Cls w a cap l) :
    Calls Try.prog 56 #[.slice a l.length cap, .int .i64 n] w fun e w' => ∃ a' cap', e = .returned (.slice a' (Ow.sinceP l n).length cap') ∧ Cls w' a' cap' (Ow.sinceP l n) ∧ (∀ x, a' = some x → ∃ y, a = some y ∧ y.block = x.block) ∧ Below w.heap.size w w' := by
  have HS := Lib.hid hS
  clear hS
  go_enter Try.func56, Try.ntmps56
  go_wp2
  go_loopw [0] (fun v wr => ∃ (r : List Ow.C) (x : Option Addr) (d : Nat), v = .slice x r.length d ∧ Hid (Cls wr x d r) ∧ Hid (Ow.sinceP r n = Ow.sinceP l n) ∧ Hid (∀ y, x = some y → ∃ z, a = some z ∧ z.block = y.block) ∧ Hid (Below w.heap.size w wr)) (fun v _ => match v with | .slice _ m _ => m | _ => 0)
  case atStart => exact ⟨l, a, cap, rfl, HS, Lib.hid rfl, Lib.hid (fun y h => ⟨y, h, rfl⟩), Lib.hid (Below.refl _ _)⟩
  case round =>
    obtain ⟨r, x, d, rfl, HC, HE, HX, HB⟩ := hrel
    cases r with
    | nil =>
      go_wp2
      go_ret
      exact ⟨x, d, by rw [← HE.out]; rfl, by rw [← HE.out]; exact HC.out, HX.out, HB.out⟩
    | cons c r =>
      obtain ⟨b, off, hx, hb, c1, c2, c3, c4⟩ := HC.out.cells (k := 0) (by simp)
      have hf := HC.out.fit (k := 0) (by simp)
      subst hx
      have HT := Lib.hid HC.out.tail
      have hcc := HC.out.1
      have hcm := HC.out.2.1
      simp only [List.getD_cons_zero, Nat.zero_mul, Nat.add_zero, List.length_cons] at c1 c2 c3 c4 hf hcc
      have hsn : Ow.sinceP (c :: r) n = if c.t < n then Ow.sinceP r n else c :: r := rfl
      have HSN := Lib.hid (hsn.symm.trans HE.out)
      obtain ⟨f, t, m, e⟩ := c
      unfold Ow.FitC at hf
      simp only at c1 c2 c3 c4 hf HSN
      clear hsn HE
      have hlen : (0 : Int) < ((r.length + 1 : Nat) : Int) := by omega
      have hlen2 : r.length + 1 ≤ 9223372036854775807 := by omega
      simp only [List.length_cons]
      by_cases hn : t < n
      · have HN : Hid (Ow.sinceP r n = Ow.sinceP l n) := Lib.hid (by have := HSN.out; rwa [if_pos hn] at this)
        by_cases hd : d = 1
        · have hr0 : r = [] := List.eq_nil_of_length_eq_zero (by omega)
          subst hr0 hd
          clear HC HT
          go_wp2
          go_roundw
          case rel => exact ⟨[], _, _, rfl, Lib.hid ⟨by simp, by simp, by simp, .inl rfl⟩, HN, Lib.hid (by intro y hy; cases hy; exact HX.out _ rfl), HB⟩
          case measure => simp
        · go_wp2
          go_roundw
          case rel => exact ⟨r, _, _, rfl, HT, HN, Lib.hid (by intro y hy; cases hy; obtain ⟨z, h1, h2⟩ := HX.out _ rfl; exact ⟨z, h1, h2⟩), HB⟩
          case measure => simp
      · have HN : Hid ((⟨f, t, m, e⟩ : Ow.C) :: r = Ow.sinceP l n) := Lib.hid (by have := HSN.out; rwa [if_neg hn] at this)
        go_wp2
        go_ret
        exact ⟨_, d, by rw [← HN.out]; rfl, by rw [← HN.out]; exact HC.out, HX.out, HB.out⟩

set_option maxHeartbeats 2000000 in
theorem stretch_any (a : Option Addr) (cap : Nat) (l : List Ow.C) (n : Int) (w : World) (hS : Cls w a cap l) (hv : Ow.VL l) :
    Calls Try.prog 57 #[.slice a l.length cap, .int .i64 n] w fun e w' => e = .returned (.tuple #[.agg #[.int .i64 (Ow.zo (Ow.stretchP l n).1).1, .int .i64 (Ow.zo (Ow.stretchP l n).1).2], .int .i64 (Ow.stretchP l n).2]) ∧ Below w.heap.size w w' := by
  have HS := Lib.hid hS
  clear hS
  cases l with
  | nil =>
    clear hv
    go_enter Try.func57, Try.ntmps57
    go_wp2
    refine bodyPost_ret (ow_cellt rfl rfl (loadOwner _ _ _ _ (by rw [World.cell?_alloc_new]; rfl) (by rw [World.cell?_alloc_new]; rfl))) rfl ⟨rfl, (Below.refl _ _).alloc (Nat.le_refl _) _⟩
  | cons c r =>
    obtain ⟨b, off, hx, hb, c1, c2, c3, c4⟩ := HS.out.cells (k := 0) (by simp)
    have hc := hv.head
    have hcc := HS.out.1
    have hcm := HS.out.2.1
    subst hx
    unfold Ow.okC at hc
    simp only [List.getD_cons_zero, Nat.zero_mul, Nat.add_zero, List.length_cons] at c1 c2 c3 c4 hcc
    obtain ⟨f, t, m, e⟩ := c
    simp only at c1 c2 c3 c4 hc
    have ew : IntKind.i64.wrap (f - 1) = f - 1 := IntWalk.i64_in _ (by omega)
    have hlen : (0 : Int) < ((r.length + 1 : Nat) : Int) := by omega
    have hlen2 : r.length + 1 ≤ 9223372036854775807 := by omega
    clear hv
    simp only [List.length_cons]
    by_cases hn : n < f
    · have e1 : Ow.stretchP ((⟨f, t, m, e⟩ : Ow.C) :: r) n = (none, f - 1) := by simp [Ow.stretchP, hn]
      rw [e1]
      go_enter Try.func57, Try.ntmps57
      go_upto_region 4 with (fail)
      go_region
      go_wp2
      refine bodyPost_ret (ow_cellt rfl rfl (loadOwner _ _ _ _ (by rw [World.cell?_drew, World.cell?_alloc_new]; rfl) (by rw [World.cell?_drew, World.cell?_alloc_new]; rfl))) rfl ⟨rfl, ((Below.refl _ _).alloc (Nat.le_refl _) _).drew⟩
    · have e1 : Ow.stretchP ((⟨f, t, m, e⟩ : Ow.C) :: r) n = (some (m, e), t) := by simp [Ow.stretchP, hn]
      rw [e1]
      go_enter Try.func57, Try.ntmps57
      go_upto_region 5 with (fail)
      go_region
      go_wp2
      refine bodyPost_ret (ow_cellt rfl rfl (loadOwner _ _ _ _ (by rw [World.cell?_drew, World.cell?_alloc_new]; rfl) (by rw [World.cell?_drew, World.cell?_alloc_new]; rfl))) rfl ⟨rfl, ((Below.refl _ _).alloc (Nat.le_refl _) _).drew⟩
end Go.Proofs.Ytchladbjhodkoaa
