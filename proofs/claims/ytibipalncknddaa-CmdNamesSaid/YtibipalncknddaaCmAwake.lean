/- Words that a statement builds in memory; the contract of the statements' own 'awake'. -/
import Derived.Test.YtibipalncknddaaCmNames
import Derived.Test.YtibipalncknddaaCmLawPlain
import Derived.Test.YtibipalncknddaaDig
import Derived.Deep.RegionHeld3
namespace Go.Proofs.Ytibipalncknddaa
open Go.RowKit Go.Shelf

/-- a literal slice of words. -/
theorem wds_new (w : World) (ws : List (List UInt8)) (hl : ws.length ≤ 1000) (hs : ∀ s ∈ ws, s.length ≤ 9223372036854775807) : Wds (w.alloc (.cells (wcells ws).toArray 9)) (some ⟨w.heap.size, 0, none⟩) ws.length ws := by
  refine ⟨Nat.le_refl _, by omega, hs, .inr ⟨w.heap.size, 0, rfl, by simp, fun k hk => ?_⟩⟩
  rw [Nat.zero_add, cell_of_row _ _ k _ 9 (0, 0) (World.alloc_heap_new w _), Cm.getD_eq hk]
  simp [wcells, hk]

/-- words in a row that the call owns. -/
def RowW (w : World) (v : Value) (ws : List (List UInt8)) (W : World) : Prop := W.ownsRow w.heap.size 9 1 v ws.length (wcells ws) ∧ Below w.heap.size w W

theorem RowW.later {w W W' : World} {v : Value} {ws : List (List UInt8)} (h : RowW w v ws W) (hb : Below W.heap.size W W') : RowW w v ws W' :=
  ⟨owns_kept (S := fun _ => True) h.1 (Keeps.of_below hb fun _ h _ => h) fun _ _ => trivial, h.2.trans (hb.mono h.2.size)⟩

theorem RowW.append {w W w1 : World} {v v' : Value} {ws : List (List UInt8)} {x : List UInt8} (h : RowW w v ws W) (h1 : w1.ownsRow w.heap.size 9 1 v' (ws.length + 1) (wcells ws ++ [.string ⟨x.toArray⟩]))
    (hg : (W.alloc (.cells #[.string ⟨x.toArray⟩] 9)).grownBy w1 v.ownBlock) : RowW w v' (ws ++ [x]) w1 := by
  refine ⟨by simpa [wcells] using h1, ?_⟩
  have hb := h.2.alloc h.2.size (.cells #[.string ⟨x.toArray⟩] 9)
  exact hb.trans ((Keeps.of_grown (S := fun k => some k ≠ v.ownBlock) hg fun r e h => h e.symm).below hb.size fun k hk e => by have := (h.1.lt k e.symm).1; omega)

theorem RowW.one {w W : World} (hb : Below w.heap.size w W) (x : List UInt8) : RowW w (.slice (some ⟨W.heap.size, 0, none⟩) 1 1) [x] (W.alloc (.cells #[.string ⟨x.toArray⟩] 9)) :=
  ⟨⟨by simp [wcells], .inr ⟨W.heap.size, 1, _, rfl, hb.size, World.alloc_heap_new W _, Nat.le_refl _, by decide, rfl, by simp [wcells]⟩⟩, hb.alloc hb.size _⟩

theorem RowW.words {w W : World} {v : Value} {ws : List (List UInt8)} (h : RowW w v ws W) (hs : ∀ s ∈ ws, s.length ≤ 9223372036854775807) : ∃ a cap, v = .slice a ws.length cap ∧ Wds W a cap ws := by
  obtain ⟨a, cap, hv, hw, _⟩ := wds_of_row h.1 hs
  exact ⟨a, cap, hv, hw⟩

theorem keys_c (a : Option Addr) (cap : Nat) (ws : List (List UInt8)) (w : World) (hW : Wds w a cap ws) : Calls Try.prog 14 #[.slice a ws.length cap] w (KOut w (Cm.keysOf ws)) := callsIn_wide.1 (keysDev_any a cap ws w hW)
theorem check_c (a : Option Addr) (cap : Nat) (ws : List (List UInt8)) (w : World) (hW : Wds w a cap ws) : Calls Try.prog 9 #[.slice a ws.length cap] w fun e W' => e = .returned (chkV ws) ∧ Below w.heap.size w W' := callsIn_wide.1 (check_any a cap ws w hW)
theorem find_c (n : List UInt8) (w : World) (hn : n.length ≤ 9223372036854775807) : Calls Try.prog 11 #[.string ⟨n.toArray⟩] w fun e W' => e = .returned (findV n) ∧ Below w.heap.size w W' := callsIn_wide.1 (find_any n w hn)
theorem names_c (w : World) : Calls Try.prog 16 #[] w (KOut w Cm.names) := callsIn_wide.1 (names_any w)

theorem ex_keys : Cm.keysOf [[109, 115, 101, 116], [97], [49], [98], [50]] = [[97], [98]] := by decide +kernel

set_option maxRecDepth 100000 in
set_option maxHeartbeats 2000000 in
theorem awake_any (w : World) : Calls Try.prog 8 #[] w fun e W' => e = .returned (.bool true) ∧ Below w.heap.size w W' := by
  have hk : Calls Try.prog 14 #[.slice (some ⟨w.heap.size, 0, none⟩) 5 5] (w.alloc (.cells #[.string ⟨#[109, 115, 101, 116]⟩, .string ⟨#[97]⟩, .string ⟨#[49]⟩, .string ⟨#[98]⟩, .string ⟨#[50]⟩] 9)) fun e W' =>
      ∃ b off cap, e = .returned (.slice (some ⟨b, off, none⟩) 2 cap) ∧ W'.cell? ⟨b, off, none⟩ = some (.string ⟨#[97]⟩) ∧ W'.cell? ⟨b, off + 1, none⟩ = some (.string ⟨#[98]⟩) ∧ Below w.heap.size w W' := by
    refine (keys_c (some ⟨w.heap.size, 0, none⟩) 5 [[109, 115, 101, 116], [97], [49], [98], [50]] _ (wds_new w [[109, 115, 101, 116], [97], [49], [98], [50]] (by decide) (by decide))).mono ?_
    rw [ex_keys]
    rintro e W' ⟨a, cap, rfl, hwd, hb⟩
    obtain ⟨b, off, rfl, hlt, hc⟩ := hwd.get (by decide)
    exact ⟨b, off, cap, rfl, hc 0 (by decide), hc 1 (by decide), ((Below.refl _ w).alloc (Nat.le_refl _) _).trans (hb.mono (by simp))⟩
  have HK := Lib.hid hk
  clear hk
  go_enter Try.func8, Try.ntmps8
  go_wp2_with (go_at_call 14; refine HK.out.mono ?_; rintro e w1 ⟨b, off, cap, rfl, c0, c1, hb⟩; have HB := Lib.hid hb; clear hb)
  go_ret
  exact ⟨rfl, HB.out⟩

end Go.Proofs.Ytibipalncknddaa
