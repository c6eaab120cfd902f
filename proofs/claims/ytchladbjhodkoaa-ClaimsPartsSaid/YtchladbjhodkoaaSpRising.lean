/- The contract of 'rising': of each span that denotes slots the part that does, by rising From, in a row of the call's own. -/
import Derived.Test.YtchladbjhodkoaaSpSort
import Derived.Test.YtchladbjhodkoaaSpRef
import Derived.WalkMore
import Derived.Deep.Fields
namespace Go.Proofs.Ytchladbjhodkoaa
open Go.RowKit Go.Shelf

def flat2 (zs : List Sp.S) : List Value := zs.flatMap enc2
theorem flat2_length (zs : List Sp.S) : (flat2 zs).length = zs.length * 2 := by
  induction zs with
  | nil => rfl
  | cons z zs ih => unfold flat2 at ih ⊢; rw [List.flatMap_cons, List.length_append, ih]; simp [enc2]; omega
theorem flat2_get (zs : List Sp.S) : ∀ k (h : k < zs.length), (flat2 zs)[k * 2]? = some (.int .i64 zs[k].1) ∧ (flat2 zs)[k * 2 + 1]? = some (.int .i64 zs[k].2) := by
  induction zs with
  | nil => intro k h; simp at h
  | cons z zs ih =>
    intro k h
    cases k with
    | zero => exact ⟨rfl, rfl⟩
    | succ k =>
      have := ih k (by simpa using h)
      have e : flat2 (z :: zs) = .int .i64 z.1 :: .int .i64 z.2 :: flat2 zs := rfl
      rw [e, show (k + 1) * 2 = k * 2 + 1 + 1 by omega]
      simpa using this
theorem flat2_snoc (zs : List Sp.S) (z : Sp.S) : flat2 (zs ++ [z]) = flat2 zs ++ [.int .i64 z.1, .int .i64 z.2] := by simp [flat2, enc2]

theorem owns_cells {w : World} {B : Nat} {v : Value} {zs : List Sp.S} (h : w.ownsRow B 51 2 v zs.length (flat2 zs)) (hz : 0 < zs.length) :
    ∃ g cap, v = .slice (some ⟨g, 0, none⟩) zs.length cap ∧ B ≤ g ∧ g < w.heap.size ∧ zs.length ≤ cap ∧ Cells2 w g 0 zs ∧ Free w g := by
  rcases h.2 with ⟨_, h0⟩ | ⟨g, cap, cur, rfl, hb, hg, hn, hcap, hsz, htake⟩
  · omega
  · refine ⟨g, cap, rfl, hb, (Array.getElem?_eq_some_iff.1 hg).1, hn, fun k hk => ?_, fun o => ?_⟩
    · obtain ⟨h1, h2⟩ := flat2_get zs k hk
      rw [← htake, List.getElem?_take] at h1 h2
      rw [if_pos (by omega)] at h1 h2
      rw [cell_of_row w g _ cur 51 (0, 0) hg, cell_of_row w g _ cur 51 (0, 0) hg, Nat.zero_add]
      exact ⟨by simpa using h1, by simpa using h2⟩
    · simp [World.frozen?, hg]

theorem infoSpan : (Try.prog.info? 51).map (fun i => (i.zero, i.size, i.bytes)) = some (some (.agg #[.int .i64 0, .int .i64 0]), 2, 16) := by kernel_rfl

/-- what 'rising' and its like hand back: nil, or a row of cells in a block from B on. -/
def SliceS (B : Nat) (w : World) (v : Value) (zs : List Sp.S) : Prop :=
  (zs = [] ∧ v = .slice none 0 0) ∨ (0 < zs.length ∧ ∃ g cap, v = .slice (some ⟨g, 0, none⟩) zs.length cap ∧ B ≤ g ∧ g < w.heap.size ∧ zs.length ≤ cap ∧ Cells2 w g 0 zs)

/-- what the loop has gathered. -/
def Gathered (w wr : World) (v : Value) (zs : List Sp.S) : Prop :=
  wr.ownsRow w.heap.size 51 2 v zs.length (flat2 zs) ∧ (v = .slice none 0 0 ↔ zs = []) ∧ Below w.heap.size w wr

theorem pair_news (w : World) (B : Nat) (hB : w.heap.size = B) (x y : Value) (t : TypeId) : ∀ j u, [x, y][j]? = some u → (w.alloc (.cells #[x, y] t)).cell? ((⟨B, 0, none⟩ : Addr).add j) = some u := by
  subst hB
  intro j u hu
  have hb := World.alloc_heap_new w (.cells #[x, y] t)
  have hadd : (⟨w.heap.size, 0, none⟩ : Addr).add j = ⟨w.heap.size, j, none⟩ := by unfold Addr.add; split <;> simp_all
  rw [hadd, cell_of_row _ _ j _ _ _ hb]
  simpa using hu

theorem gathered_snoc {w wr w1 wa : World} {v v' : Value} {zs : List Sp.S} {x y : Int} (hB : Below w.heap.size w wr) (hown : wr.ownsRow w.heap.size 51 2 v zs.length (flat2 zs)) (ha : Below w.heap.size wr wa)
    (h1 : w1.ownsRow w.heap.size 51 2 v' (zs.length + 1) (flat2 zs ++ [.int .i64 x, .int .i64 y])) (hg : wa.grownBy w1 v.ownBlock) (hi : ¬ v' = .slice none 0 0) : Gathered w w1 v' (zs ++ [(x, y)]) := by
  refine ⟨?_, ?_, ?_⟩
  · rw [flat2_snoc, List.length_append]
    exact h1
  · simp [hi]
  · refine (hB.trans ha).grown hg (Nat.le_trans hB.size ha.size) fun k hk => (hown.lt k hk).1

set_option maxRecDepth 100000 in
set_option maxHeartbeats 4000000 in
theorem rising_some (b off cap : Nat) (l : List Sp.S) (w : World) (hl : l.length ≤ 1000000) (hint : ∀ s ∈ l, -9223372036854775808 ≤ s.1 ∧ s.1 ≤ 9223372036854775807 ∧ -9223372036854775808 ≤ s.2 ∧ s.2 ≤ 9223372036854775807) (hb : b < w.heap.size)
    (hc : ∀ k, k < l.length → w.cell? ⟨b, off + k * 2, none⟩ = some (.int .i64 (l.getD k (0, 0)).1) ∧ w.cell? ⟨b, off + k * 2 + 1, none⟩ = some (.int .i64 (l.getD k (0, 0)).2)) :
    Calls Try.prog 61 #[.slice (some ⟨b, off, none⟩) l.length cap] w fun e w' => ∃ (v : Value) (zs : List Sp.S), e = .returned v ∧ zs.Perm (Sp.clipL l) ∧ zs.Pairwise (fun s t => s.1 ≤ t.1) ∧ SliceS w.heap.size w' v zs ∧ Below w.heap.size w w' := by
  have HC := Lib.hid hc
  have HI := Lib.hid hint
  clear hc hint
  obtain ⟨i0, hi, hz0, hz1, hz2⟩ := info_parts infoSpan
  go_enter Try.func61, Try.ntmps61
  go_wp2
  go_loopw [3, 9] (fun v i wr => ∃ (k : Nat) (sv : Value), k ≤ l.length ∧ i = .int .i64 k ∧ sv = v ∧ Gathered w wr sv (Sp.clipL (l.take k))) (fun _ i _ => l.length - (intOf i).toNat)
  case atStart => exact ⟨0, _, Nat.zero_le _, rfl, rfl, ⟨rfl, .inl ⟨rfl, rfl⟩⟩, by simp [Sp.clipL], Below.refl _ _⟩
  case round =>
    obtain ⟨k, sv, hk, rfl, rfl, hg⟩ := hrel
    by_cases hlt : k < l.length
    · have HCL := Lib.hid (Sp.clipL_len (l.take k))
      obtain ⟨c1, c2⟩ := HC.out k hlt
      have hmem : l.getD k (0, 0) ∈ l := by simp [List.getD, hlt]
      obtain ⟨i1, i2, i3, i4⟩ := HI.out _ hmem
      have HT := Lib.hid (Sp.clipL_take hlt)
      clear hmem
      generalize hs : l.getD k (0, 0) = s at c1 c2 i1 i2 i3 i4 HT
      clear hs
      obtain ⟨x, y⟩ := s
      simp only at c1 c2 i1 i2 i3 i4
      obtain ⟨hown, hnil, hB⟩ := hg
      have c1' := (hB.cell (p := ⟨b, off + k * 2, none⟩) hb).trans c1
      have c2' := (hB.cell (p := ⟨b, off + k * 2 + 1, none⟩) hb).trans c2
      have hsz := hB.size
      have HO := Lib.hid hown
      have HN := Lib.hid hnil
      have HB := Lib.hid hB
      clear hown hnil hB c1 c2
      by_cases hxy : max x 0 ≤ min y 16383
      · rw [Sp.clip_yes (s := (x, y)) hxy] at HT
        have HT' : Hid (Sp.clipL (l.take (k + 1)) = Sp.clipL (l.take k) ++ [(max x 0, min y 16383)]) := HT
        clear HT
        go_wp2_with (at_builtin; refine wpList_append_own _ rfl (.tmp 25) (.tmp 27) 23 rfl w.heap.size 51 i0 (.agg #[.int .i64 0, .int .i64 0]) 2 16 Try.underlying23 hi hz0 hz1 hz2 rfl (by decide) _ _ _ rfl (((HO.out.alloc _).alloc _).alloc _) ⟨wr.heap.size + 1 + 1, 0, none⟩ 1 1 [.int .i64 (max x 0), .int .i64 (min y 16383)] rfl rfl ?c1 ?c2 ?c3 ?c4 ?c5 ?_)
        case c1 => exact pair_news _ _ (by simp) _ _ _
        case c2 => intro u hu; simp at hu; rcases hu with rfl | rfl <;> rfl
        case c3 => have := HCL.out; simp at this; unfold maxLen; omega
        case c4 => have := HCL.out; simp at this; omega
        case c5 => simp; omega
        intro v' w1 hown1 hgrow hiff
        have hG := gathered_snoc HB.out HO.out ((((Below.refl _ wr).alloc hsz _).alloc (by simp; omega) _).alloc (by simp; omega) _) hown1 hgrow hiff
        have HG := Lib.hid hG
        clear hG hown1 hgrow hiff
        go_wp2
        go_roundw
        case rel => exact ⟨k + 1, _, by omega, by go_num, rfl, by rw [HT'.out]; exact HG.out⟩
        case measure => simp [intOf]; omega
      · rw [Sp.clip_no (s := (x, y)) hxy] at HT
        have hxy' : min y 16383 < max x 0 := by omega
        go_wp2
        go_roundw
        case rel =>
          refine ⟨k + 1, _, by omega, by go_num, rfl, ?_⟩
          rw [HT.out]
          simp only [Option.map_none, Option.toList_none, List.append_nil]
          exact ⟨(HO.out.alloc _).alloc _, HN.out, (HB.out.alloc HB.out.size _).alloc (by have := HB.out.size; simp; omega) _⟩
        case measure => simp [intOf]; omega
    · obtain rfl : k = l.length := by omega
      rw [List.take_length] at hg
      obtain ⟨hown, hnil, hB⟩ := hg
      have hcl := Sp.clipL_len l
      obtain ⟨zs, hzs⟩ : ∃ zs, Sp.clipL l = zs := ⟨_, rfl⟩
      rw [hzs] at hown hnil hcl
      have HZ := Lib.hid hzs
      clear hzs
      by_cases hz : zs = []
      · subst hz
        obtain rfl : sv = .slice none 0 0 := hnil.2 rfl
        have HB := Lib.hid hB
        clear hB hown hnil
        go_wp2_with (go_at_call 75; refine (sort_none _ _ _).mono ?_; rintro e w' ⟨rfl, rfl⟩)
        go_ret
        exact ⟨_, [], rfl, by rw [HZ.out], List.Pairwise.nil, .inl ⟨rfl, rfl⟩, HB.out⟩
      · have hz' : 0 < zs.length := List.length_pos_iff.2 hz
        obtain ⟨g, cap', rfl, hgB, hgw, hgc, hcells, hfree⟩ := owns_cells hown hz'
        have hs := sort_any g 0 cap' zs wr hcells hfree hgw (by omega)
        have HB := Lib.hid hB
        clear hB hown hnil hcells hfree hz
        go_wp2_with (go_at_call 75; refine hs.mono ?_; rintro e w' ⟨rfl, hd⟩)
        obtain ⟨d', hp, hpw, hc', hk'⟩ := hd
        have HP := Lib.hid hp
        have HPW := Lib.hid hpw
        have HCC := Lib.hid hc'
        clear hp hpw hc'
        go_wp2
        go_ret
        have hp := HP.out
        have hpw := HPW.out
        have hc' := HCC.out
        have hlen := hp.length_eq
        refine ⟨_, d', rfl, by rw [HZ.out]; exact hp, hpw, .inr ⟨by omega, g, cap', by rw [hlen]; rfl, hgB, Nat.lt_of_lt_of_le hgw hk'.size, by omega, hc'⟩, ?_⟩
        exact HB.out.trans (hk'.below HB.out.size fun k hk e => by subst e; omega)

set_option maxRecDepth 100000 in
set_option maxHeartbeats 1000000 in
theorem rising_nil (a : Option Addr) (cap : Nat) (w : World) :
    Calls Try.prog 61 #[.slice a 0 cap] w fun e w' => e = .returned (.slice none 0 0) ∧ w' = w := by
  go_enter Try.func61, Try.ntmps61
  go_wp2
  go_loop [3, 9] (fun v i => v = .slice none 0 0 ∧ i = .int .i64 0) (fun _ _ => 0)
  case atStart => exact ⟨rfl, rfl⟩
  case round =>
    obtain ⟨rfl, rfl⟩ := hrel
    go_wp2_with (go_at_call 75; refine (sort_none _ _ _).mono ?_; rintro e w' ⟨rfl, rfl⟩)
    go_ret
    exact ⟨rfl, rfl⟩

/-- 'rising' of any list. -/
theorem rising_any (a : Option Addr) (cap : Nat) (l : List Sp.S) (w : World) (hl : l.length ≤ 1000000) (hS : Spans w a cap l) :
    Calls Try.prog 61 #[.slice a l.length cap] w fun e w' => ∃ (v : Value) (zs : List Sp.S), e = .returned v ∧ zs.Perm (Sp.clipL l) ∧ zs.Pairwise (fun s t => s.1 ≤ t.1) ∧ SliceS w.heap.size w' v zs ∧ Below w.heap.size w w' := by
  obtain ⟨h0, h1, h2, h3⟩ := hS
  rcases h3 with rfl | ⟨b, off, rfl, hb, hc⟩
  · refine (rising_nil a cap w).mono ?_
    rintro e w' ⟨rfl, rfl⟩
    exact ⟨_, [], rfl, List.Perm.refl _, List.Pairwise.nil, .inl ⟨rfl, rfl⟩, Below.refl _ _⟩
  · exact rising_some b off cap l w hl h2 hb hc
end Go.Proofs.Ytchladbjhodkoaa
