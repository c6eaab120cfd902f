/- The contract of list.Push. -/
import Derived.Test.YtjfjlbgbdjcecaaLsCalls
namespace Go.Proofs.Ytjfjlbgbdjcecaa
open Go.RowKit Go.Shelf
attribute [local go_sem] Oper.semAt_some
set_option linter.unusedVariables false
set_option linter.unusedSimpArgs false

/-- list.list of two walks, as a call makes them. -/
theorem two_walks (b1 b2 : Bool) (a1 : Option Addr) (c1 : Nat) (xs : List Ls.Bs) (a2 : Option Addr) (c2 : Nat) (ys : List Ls.Bs) (w : World) (h1 : Wds w a1 c1 xs) (h2 : Wds w a2 c2 ys) (hn : xs.length + ys.length ≤ 1000000) (ho1 : ∀ s ∈ xs, s.length ≤ 1000000) (ho2 : ∀ s ∈ ys, s.length ≤ 1000000) :
    ∃ w1 w2, Calls Try.prog 26 #[.slice a1 xs.length c1, .bool b1] w (fun e w' => e = .returned (.func (.func (gfB b1)) #[] #[.pointer (some ⟨w.heap.size, 0, none⟩)]) ∧ w1 = w') ∧
      Calls Try.prog 26 #[.slice a2 ys.length c2, .bool b2] w1 (fun e w' => e = .returned (.func (.func (gfB b2)) #[] #[.pointer (some ⟨w.heap.size + 1, 0, none⟩)]) ∧ w2 = w') ∧ Below w.heap.size w w2 ∧
      Calls Try.prog 25 #[.slice (some ⟨w2.heap.size, 0, none⟩) 2 2] (w2.alloc (.cells #[.func (.func (gfB b1)) #[] #[.pointer (some ⟨w.heap.size, 0, none⟩)], .func (.func (gfB b2)) #[] #[.pointer (some ⟨w.heap.size + 1, 0, none⟩)]] 51)) fun e W' => ∃ u, e = .returned u ∧ RowW w u ((Ls.dirL b1 xs).map (·.2) ++ (Ls.dirL b2 ys).map (·.2)) W' := by
  have k1 := walk_any b1 a1 xs.length c1 w
  have s1 := walk_at b1 a1 c1 xs w h1 (by omega) ho1
  obtain ⟨w1, hw1⟩ : ∃ w1, w.alloc (.cells #[.slice a1 xs.length c1] 22) = w1 := ⟨_, rfl⟩
  have z1 : w1.heap.size = w.heap.size + 1 := by rw [← hw1]; simp
  have B1 : Below w.heap.size w w1 := by rw [← hw1]; exact (Below.refl _ _).alloc (Nat.le_refl _) _
  rw [hw1] at k1 s1
  have k2 := walk_any b2 a2 ys.length c2 w1
  have s2 := walk_at b2 a2 c2 ys w1 (h2.later B1) (by omega) ho2
  obtain ⟨w2, hw2⟩ : ∃ w2, w1.alloc (.cells #[.slice a2 ys.length c2] 22) = w2 := ⟨_, rfl⟩
  have B2 : Below w1.heap.size w1 w2 := by rw [← hw2]; exact (Below.refl _ _).alloc (Nat.le_refl _) _
  rw [hw2] at k2 s2
  rw [z1] at k2 s2
  have hB : Below w.heap.size w w2 := B1.trans (B2.mono B1.size)
  refine ⟨w1, w2, (callsIn_wide.1 k1).mono fun e w' ⟨he, hw⟩ => ⟨he, hw.symm⟩, (callsIn_wide.1 k2).mono fun e w' ⟨he, hw⟩ => ⟨he, hw.symm⟩, hB, ?_⟩
  have hl := list_of2 (gfB b1) #[.pointer (some ⟨w.heap.size, 0, none⟩)] (Ls.dirL b1 xs) (gfB b2) #[.pointer (some ⟨w.heap.size + 1, 0, none⟩)] (Ls.dirL b2 ys) 1000000 w2 (eg_gfB b1) (eg_gfB b2) ?_ ?_ (Nat.le_refl _) (by rw [Ls.dirL_len, Ls.dirL_len]; omega)
  · exact (callsIn_wide.1 hl).mono fun e W' ⟨u, he, hr⟩ => ⟨u, he, hr.lift hB⟩
  · exact (((seq_false s1 (fun _ h => h) (Below.refl _ _)).weak okI_okE).later (fun k hk => Nat.lt_of_lt_of_le hk B2.size) B2).most (by omega)
  · exact ((seq_false s2 (fun _ h => h) (Below.refl _ _)).weak okI_okE).most (by omega)
/-- list.list of one walk, as a call makes it. -/
theorem one_walk (b1 : Bool) (a1 : Option Addr) (c1 : Nat) (xs : List Ls.Bs) (w : World) (h1 : Wds w a1 c1 xs) (hn : xs.length ≤ 1000000) (ho1 : ∀ s ∈ xs, s.length ≤ 1000000) :
    ∃ w1, Calls Try.prog 26 #[.slice a1 xs.length c1, .bool b1] w (fun e w' => e = .returned (.func (.func (gfB b1)) #[] #[.pointer (some ⟨w.heap.size, 0, none⟩)]) ∧ w1 = w') ∧ Below w.heap.size w w1 ∧
      Calls Try.prog 25 #[.slice (some ⟨w1.heap.size, 0, none⟩) 1 1] (w1.alloc (.cells #[.func (.func (gfB b1)) #[] #[.pointer (some ⟨w.heap.size, 0, none⟩)]] 51)) fun e W' => ∃ u, e = .returned u ∧ RowW w u ((Ls.dirL b1 xs).map (·.2)) W' := by
  have k1 := walk_any b1 a1 xs.length c1 w
  have s1 := walk_at b1 a1 c1 xs w h1 (by omega) ho1
  obtain ⟨w1, hw1⟩ : ∃ w1, w.alloc (.cells #[.slice a1 xs.length c1] 22) = w1 := ⟨_, rfl⟩
  have B1 : Below w.heap.size w w1 := by rw [← hw1]; exact (Below.refl _ _).alloc (Nat.le_refl _) _
  rw [hw1] at k1 s1
  refine ⟨w1, (callsIn_wide.1 k1).mono fun e w' ⟨he, hw⟩ => ⟨he, hw.symm⟩, B1, ?_⟩
  have hl := list_of1 (gfB b1) #[.pointer (some ⟨w.heap.size, 0, none⟩)] (Ls.dirL b1 xs) 1000000 w1 (eg_gfB b1) ?_ (Nat.le_refl _) (by rw [Ls.dirL_len]; omega)
  · exact (callsIn_wide.1 hl).mono fun e W' ⟨u, he, hr⟩ => ⟨u, he, hr.lift B1⟩
  · exact ((seq_false s1 (fun _ h => h) (Below.refl _ _)).weak okI_okE).most (by omega)

set_option maxRecDepth 100000 in
set_option maxHeartbeats 2000000 in
theorem push_any (a : Option Addr) (c : Nat) (ws : List Ls.Bs) (front : Bool) (b : Option Addr) (d : Nat) (vs : List Ls.Bs) (w : World) (h1 : Wds w a c ws) (h2 : Wds w b d vs) (hn : ws.length + vs.length ≤ 1000000) (ho1 : ∀ s ∈ ws, s.length ≤ 1000000) (ho2 : ∀ s ∈ vs, s.length ≤ 1000000) :
    Calls Try.prog 17 #[.slice a ws.length c, .bool front, .slice b vs.length d] w fun e W => ∃ u, e = .returned u ∧ RowW w u (Ls.pushS ws vs front) W := by
  cases front
  · obtain ⟨w1, w2, k1, k2, hB, k3⟩ := two_walks false false a c ws b d vs w h1 h2 hn ho1 ho2
    rw [Ls.dirL_front, Ls.dirL_front] at k3
    have K1 := Lib.hid k1
    have K2 := Lib.hid k2
    have K3 := Lib.hid k3
    clear h1 h2 k1 k2 k3
    generalize gfB false = gf at K1 K2 K3
    go_enter Try.func17, Try.ntmps17
    go_wp2_with fail
    with_reducible refine K1.out.mono ?_
    rintro e w1' ⟨rfl, rfl⟩
    go_wp2_with fail
    with_reducible refine K2.out.mono ?_
    rintro e w2' ⟨rfl, rfl⟩
    go_wp2_with fail
    with_reducible refine K3.out.mono ?_
    rintro e w3' ⟨u, rfl, hr⟩
    have HR := Lib.hid hr
    clear hr
    go_wp2_with fail
    go_ret
    exact ⟨u, rfl, HR.out⟩
  · obtain ⟨w1, w2, k1, k2, hB, k3⟩ := two_walks true false b d vs a c ws w h2 h1 (by omega) ho2 ho1
    rw [Ls.dirL_front, Ls.dirL_back] at k3
    have K1 := Lib.hid k1
    have K2 := Lib.hid k2
    have K3 := Lib.hid k3
    clear h1 h2 k1 k2 k3
    generalize gfB false = gf at K2 K3
    generalize gfB true = gf2 at K1 K3
    go_enter Try.func17, Try.ntmps17
    go_wp2_with fail
    with_reducible refine K1.out.mono ?_
    rintro e w1' ⟨rfl, rfl⟩
    go_wp2_with fail
    with_reducible refine K2.out.mono ?_
    rintro e w2' ⟨rfl, rfl⟩
    go_wp2_with fail
    with_reducible refine K3.out.mono ?_
    rintro e w3' ⟨u, rfl, hr⟩
    have HR := Lib.hid hr
    clear hr
    go_wp2_with fail
    go_ret
    exact ⟨u, rfl, HR.out⟩
end Go.Proofs.Ytjfjlbgbdjcecaa
