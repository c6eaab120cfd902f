/- slices.SortFunc at spans, by From: the row holds a permutation of what it held, by rising From. -/
import Derived.Test.YtchladbjhodkoaaSort
import Derived.Test.YtchladbjhodkoaaShelf
import Derived.Test.YtchladbjhodkoaaSeqVal
import Derived.Below
namespace Go.Proofs.Ytchladbjhodkoaa
open Go.RowKit Go.Shelf Go.Lib Go.Sort

/-- a span's two cells. -/
def enc2 (x : Int × Int) : List Value := [.int .i64 x.1, .int .i64 x.2]

theorem ltFrom (x y : Int × Int) : ltOf (fun x y : Int × Int => Lib.compareInt x.1 y.1) x y = decide (x.1 < y.1) := by
  unfold ltOf Lib.compareInt
  by_cases h1 : x.1 < y.1
  · simp [h1]
  · by_cases h2 : y.1 < x.1 <;> simp [h1, h2]

theorem swoFrom : SWO (ltOf fun x y : Int × Int => Lib.compareInt x.1 y.1) where
  irrefl x := by rw [ltFrom]; simp
  trans x y z h1 h2 := by rw [ltFrom] at *; simp at *; omega
  ntrans x y z h1 h2 := by rw [ltFrom] at *; simp at *; omega

set_option maxHeartbeats 1000000 in
theorem closure_any (x y : Int × Int) (W : World) : Calls Try.prog 76 #[.agg #[.int .i64 x.1, .int .i64 x.2], .agg #[.int .i64 y.1, .int .i64 y.2]] W fun e w' =>
    e = .returned (.int .i64 (Lib.compareInt x.1 y.1)) ∧ ∃ q os', w' = grow (W.drewN q) os' := by
  have hcon := fun W' => Try.cmp_Compare_int x.1 y.1 W'
  generalize Lib.compareInt x.1 y.1 = r at hcon ⊢
  go_enter Try.func76, Try.ntmps76
  go_wp2_with (go_at_call 38; refine (hcon _).mono ?_; rintro e w' ⟨rfl, rfl⟩)
  go_ret
  exact ⟨rfl, 0, _, by rw [alloc_eq_grow, alloc_eq_grow, grow_grow]; rfl⟩

theorem closure_lays (blk off size : Nat) (w : World) : CmpLays Try.prog 76 #[] enc2 2 (fun x y => Lib.compareInt x.1 y.1) blk off size w :=
  fun _ _ _ _ x y => closure_any x y _

/-- a row of cells holds these spans, none of them frozen. -/
def Cells2 (w : World) (b off : Nat) (zs : List Sp.S) : Prop :=
  ∀ k (h : k < zs.length), w.cell? ⟨b, off + k * 2, none⟩ = some (.int .i64 zs[k].1) ∧ w.cell? ⟨b, off + k * 2 + 1, none⟩ = some (.int .i64 zs[k].2)
def Free (w : World) (b : Nat) : Prop := ∀ o, w.frozen? ⟨b, o, none⟩ = false

theorem holds_of {w : World} {b off : Nat} {zs : List Sp.S} (h : Cells2 w b off zs) (hf : Free w b) : HoldsK enc2 2 w b off zs.toArray := by
  intro j hj
  rw [size_flatK] at hj
  simp only [List.size_toArray] at hj
  have hq : j / 2 < zs.length := by omega
  have hh := h (j / 2) hq
  refine ⟨?_, hf _⟩
  rw [get_flatK _ _ _ _ (by simpa using hj)]
  have e1 : zs.toArray[j / 2]! = zs[j / 2] := by simp [hq]
  rw [e1]
  rcases Nat.mod_two_eq_zero_or_one j with hm | hm
  · rw [hm]
    have e2 : off + j = off + j / 2 * 2 := by omega
    rw [e2, hh.1]
    rfl
  · rw [hm]
    have e2 : off + j = off + j / 2 * 2 + 1 := by omega
    rw [e2, hh.2]
    rfl

theorem cells_of {w : World} {b off : Nat} {zs : List Sp.S} (h : HoldsK enc2 2 w b off zs.toArray) : Cells2 w b off zs := by
  intro k hk
  have h0 := (h.cell (i := k) (c := 0) (by simpa using hk) (by omega)).1
  have h1 := (h.cell (i := k) (c := 1) (by simpa using hk) (by omega)).1
  have e1 : zs.toArray[k]! = zs[k] := by simp [hk]
  rw [e1] at h0 h1
  exact ⟨h0, h1⟩

theorem sort_any (blk off cap : Nat) (d : List Sp.S) (w : World) (hc : Cells2 w blk off d) (hf : Free w blk) (hblk : blk < w.heap.size) (hsz : d.length < 4611686018427387904) :
    Calls Try.prog 75 #[.slice (some ⟨blk, off, none⟩) d.length cap, .func (.func 76) #[] #[]] w fun e w' =>
      e = .returned (.tuple #[]) ∧ ∃ d' : List Sp.S, d'.Perm d ∧ d'.Pairwise (fun s t => s.1 ≤ t.1) ∧ Cells2 w' blk off d' ∧ Keeps (fun k => k ≠ blk) w w' := by
  have eg : ∀ args w, (callFunc 76 args).run Try.prog w = .ok (.enter 76 args) w := enters_of Try.func76 (by kernel_rfl) rfl
  have hcon := AnyQ.slices_SortFunc Try.sortIv 2 Try.isAgg51 Try.sizeOf51 enc2 (fun _ => rfl) (fun x v hv => by simp [enc2] at hv; rcases hv with rfl | rfl <;> rfl) (fun x y => Lib.compareInt x.1 y.1) swoFrom 76 #[] blk off cap d.toArray w eg
    (closure_lays blk off d.toArray.size w) (holds_of hc hf) hblk (by simpa using hsz)
  have hcon' : Calls Try.prog 75 #[.slice (some ⟨blk, off, none⟩) d.length cap, .func (.func 76) #[] #[]] w _ := hcon
  refine hcon'.mono ?_
  rintro e w' ⟨he, d', n, os, ⟨hs, -, hp⟩, hso, rfl⟩
  have hs' : d'.size = d.length := by simpa using hs
  have hp' : d'.toList.Perm d := by
    have e1 : (d'.extract 0 d.toArray.size).toList = d'.toList := by
      rw [show d.toArray.size = d'.size by simp [hs']]; simp
    have e2 : (d.toArray.extract 0 d.toArray.size).toList = d := by simp
    rw [e1, e2] at hp
    exact hp
  refine ⟨he, d'.toList, hp', ?_, cells_of (holdsK_sortWorldK_c enc2 2 w blk off d.toArray _ n os (holds_of hc hf) hblk (by simpa using hs')), ?_⟩
  · rw [List.pairwise_iff_getElem]
    intro i j hi hj hij
    have h := hso i j (Nat.zero_le _) hij (by simp at hj; simp; omega)
    rw [ltFrom] at h
    simp at h hi hj
    rw [getElem!_pos d' j (by omega), getElem!_pos d' i (by omega)] at h
    simpa using h
  · unfold sortWorldK
    refine ⟨rfl, rfl, rfl, size_sortWorldK_c enc2 2 w blk off n d' os, ?_⟩
    intro k hk hne
    show ((putRowK enc2 2 (Sort.ahead w n) blk off d').heap ++ os)[k]? = _
    rw [Array.getElem?_append_left (by rw [size_putRowK]; exact hk)]
    simp only [putRowK, putRow, mapBlock]
    show (w.heap.modify blk _)[k]? = _
    rw [Array.getElem?_modify, if_neg (fun e => hne e.symm)]

theorem sort_none (p : Option Addr) (cap : Nat) (w : World) :
    Calls Try.prog 75 #[.slice p 0 cap, .func (.func 76) #[] #[]] w fun e w' => e = .returned (.tuple #[]) ∧ w = w' :=
  Calls.mono (f := 75) (AnyF.slices_SortFunc_none Try.sortIv p cap (.func (.func 76) #[] #[]) w) fun _ _ ⟨he, hw⟩ => ⟨he, hw.symm⟩

end Go.Proofs.Ytchladbjhodkoaa
