/- The contract of spans.Text: the walk. -/
import Derived.Test.YtlbmkgnfbkimaaaDoorDevText
namespace Go.Proofs.YtlbmkgnfbkimaaaDoor
open Go.RowKit Go.Shelf
attribute [local go_sem] Oper.semAt_some

def TInv (w : World) (O : Nat → Prop) (pre : List Sp.V) (W : World) : Prop :=
  (∃ v, Bld (w.heap.size + 1) w.heap.size (textS (Sp.bare pre)) v W ∧ ∀ g, v.ownBlock = some g → O g) ∧ Below w.heap.size w W

/-- a call in a round. -/
theorem in_round {l f : Nat} {args : Array Value} {w : World} {R : Ending → World → Prop} (h : Calls Tryd.prog f args w R) : CallsIn (Fence.wide.inRound l) 0 Tryd.prog f args w R := CallsIn.inRound l (callsIn_wide.2 h)

theorem TSt.cells {w A : World} {b : Nat} {O Dt : Nat → Prop} {bs : List UInt8} {W : World} {Bx : Nat} {x y : Value} (h : TSt w A b O Dt bs W) (hBx : b + 2 ≤ Bx) (hnO : ¬ O Bx) (hcx : A.heap[Bx]? = some (.cells #[x, y] 39 (0, 0))) : W.cell? ⟨Bx, 0, none⟩ = some x ∧ W.cell? ⟨Bx, 1, none⟩ = some y := by
  obtain ⟨v, h1, h2, h3, h4⟩ := h
  obtain ⟨c1, c2, -, -⟩ := cells_two (h3.heap hcx (.inr (.inr ⟨by omega, hnO⟩)))
  exact ⟨c1, c2⟩

theorem TSt.fin {w A : World} {b : Nat} {O Dt : Nat → Prop} {pre : List Sp.V} {x : Sp.V} {W : World} {aa : Act} (hO : ∀ k, O k → b + 2 ≤ k ∧ k < A.heap.size) (h : TSt w A b O Dt (textS (Sp.bare (pre ++ [x]))) W) :
    ownPostT (RoundS Dt (fun _ => False) b O) O (TInv w) (fun _ _ _ _ => False) (pre ++ [x]) A .normal aa W := by
  obtain ⟨v, h1, h2, h3, h4⟩ := h
  refine ⟨h3, fun k => O k ∨ (A.heap.size ≤ k ∧ k < W.heap.size), ?_, ⟨v, h1, fun g hg => ?_⟩, h4⟩
  · rintro k (h | h)
    · exact ⟨Nat.lt_of_lt_of_le (hO k h).2 h3.size, .inl h⟩
    · exact ⟨h.2, .inr h.1⟩
  · have := h1.2.2.lt g hg
    rcases h2 g hg with h | h
    · exact .inl h
    · exact .inr ⟨h, this.2⟩

set_option maxRecDepth 100000 in
set_option maxHeartbeats 4000000 in
theorem text_any (a : Option Addr) (cap : Nat) (l : List Sp.S) (w : World) (hl : l.length ≤ 1000000) (hS : Spans w a cap l) (ht : Tab w) :
    CallsIn Fence.wide 0 Tryd.prog 20 #[.slice a l.length cap] w fun e W' => e = .returned (.string ⟨(textS (Sp.mixS 0 l [])).toArray⟩) ∧ Below w.heap.size w W' := by
  have hr := runs_any a cap l (w.alloc (.cells #[.pointer none, .slice none 0 0] 56)) hl (hS.later ((Below.refl _ w).alloc (Nat.le_refl _) _))
  have HTAB := Lib.hid ht
  clear hS ht
  refine callsIn_of_wp_marks Tryd.func20 rfl trivial ?_ rfl
  simp only [Tryd.ntmps20, List.size_toArray, List.length_cons, List.length_nil, Nat.reduceAdd, Nat.reduceSub, Array.replicate_succ, Array.replicate_zero, List.push_toArray, List.append_toArray, List.nil_append, List.cons_append]
  gi_wp2_with (refine ⟨trivial, rfl, ?_⟩; refine hr.mono ?_; rintro e w2 ⟨v, rfl, Bp, rfl, hB2, hseq⟩; have HB2 := Lib.hid hB2; have HSQ := Lib.hid hseq; clear hB2 hseq)
  have hB2 := HB2.out
  have hseq := HSQ.out
  clear HB2 HSQ
  have hs1 : (w.alloc (.cells #[.pointer none, .slice none 0 0] 56)).heap.size = w.heap.size + 1 := by simp
  rw [hs1] at hseq hB2
  have hsz := hB2.size
  rw [hs1] at hsz
  have hbox0 : w2.heap[w.heap.size]? = some (.cells #[.pointer none, .slice none 0 0] 56 (0, 0)) := (hB2.block w.heap.size (by omega)).trans (World.alloc_heap_new w _)
  have hBw : Below w.heap.size w w2 := ((Below.refl _ w).alloc (Nat.le_refl _) _).trans (hB2.mono (by omega))
  refine wpIn_rangeT (gf := 60) (lb := #[.pointer (some ⟨Bp, 0, none⟩)]) rfl (enters_of Tryd.func60 (by kernel_rfl) rfl)
    (hseq (fun k => w.heap.size + 1 ≤ k ∧ k < w2.heap.size) (fun _ => False) (fun k h1 h2 => ⟨h1, h2⟩) (fun k h => h.2) (fun k h => h.elim)) (Below.refl _ _) (fun k h => h.2) (fun k h => h.elim) (fun _ => rfl)
    (TInv w) (fun _ _ _ _ => False) ?hI (fun _ _ _ _ _ h _ => h) (fun _ _ _ _ _ h => h) ⟨⟨_, ⟨by omega, ⟨_, .inl rfl, hbox0⟩, World.ownsRow_nil _ _ _ _⟩, by simp [Value.ownBlock]⟩, hBw⟩
    (SVar (w2.heap.size + 2) (fun Bx x => { tmps := #[.slice a l.length cap, undef, .string ⟨#[]⟩, .pointer (some ⟨w.heap.size, 0, none⟩), .pointer (some ⟨Bx, 0, none⟩), .slice a l.length cap, .func (.func 60) #[] #[.pointer (some ⟨Bp, 0, none⟩)], .agg #[.int .i64 x.1.1, .int .i64 x.1.2], undef, undef, undef, undef, undef, undef, undef, undef, undef, undef, undef, undef, undef, undef, undef, undef, undef, undef], defers := [] }))
    (fun O x a' A C h hk => h.later (by omega) hk) ?assign ?body ?done ?stop
  case hI =>
    rintro O s A C ⟨⟨v, h1, h4⟩, h5⟩ hk
    have own : ∀ k, k < w2.heap.size → IterS (fun _ => False) w2.heap.size O k := fun k h => ⟨id, .inl h⟩
    exact ⟨⟨v, bld_kept h1 hk (own _ (by omega)) (fun g hg => ⟨id, .inr (h4 g hg)⟩), h4⟩, h5.trans (hk.below h5.size fun k hk' => own k (by omega))⟩
  case assign =>
    intro O pre x A K hO hA ⟨⟨v, h1, h4⟩, h5⟩ hK
    have HK := Lib.hid hK
    have H1 := Lib.hid h1
    clear hK h1
    unfold encS
    gi_wp2
    exact HK.out _ _ ((Keeps.refl _ _).alloc _) ⟨⟨v, bld_kept H1.out ((Keeps.refl (fun _ => True) A).alloc _) trivial (fun _ _ => trivial), h4⟩, h5.alloc h5.size _⟩ ⟨A.heap.size, by omega, fun h => by have := (hO _ h).2; omega, World.alloc_heap_new A _, rfl⟩
  case body =>
    rintro O pre x a' A hO hA ⟨r, hr⟩ ⟨⟨v, hv, hown⟩, hB⟩ ⟨Bx, hBx, hnO, hcx, rfl⟩ hlen
    clear hr
    have HO := Lib.hid hO
    have HDt : Hid (∀ k, (w.heap.size + 1 ≤ k ∧ k < w2.heap.size) → w.heap.size < k ∧ k < w2.heap.size) := Lib.hid fun k h => ⟨by omega, h.2⟩
    have HL := Lib.hid (textS_len pre)
    have HV := Lib.hid hv
    have HOWN : Hid (∀ g, v.ownBlock = some g → O g ∨ A.heap.size ≤ g) := Lib.hid fun g hg => .inl (hown g hg)
    have HB := Lib.hid hB
    have hlenc := in_round (l := w2.heap.size + 1) (bldLen_any _ _ _ _ _ hv)
    have hbA : w.heap.size + 1 ≤ A.heap.size := by omega
    have hxv := x.2
    have HT1 : Hid (Tab A) := Lib.hid (tab_later HTAB.out hB)
    obtain ⟨x1, x2, -, -⟩ := cells_two hcx
    have HCX := Lib.hid hcx
    clear hv hown hB hO hcx
    have HSEP : Hid ((textS (Sp.bare pre) ++ (if 0 < pre.length then [44] else [])).length ≤ 12 * pre.length + 1) := Lib.hid (by
      have := HL.out.1
      rw [List.length_append]
      split <;> simp <;> omega)
    have go : ∀ W1, TSt w A w2.heap.size O (fun k => w.heap.size + 1 ≤ k ∧ k < w2.heap.size) (textS (Sp.bare pre) ++ (if 0 < pre.length then [44] else [])) W1 → Hid (TSt w A w2.heap.size O (fun k => w.heap.size + 1 ≤ k ∧ k < w2.heap.size) (textS (Sp.bare pre) ++ (if 0 < pre.length then [44] else [])) W1) := fun _ h => Lib.hid h
    by_cases hp : 0 < pre.length
    · have hne : 0 < (textS (Sp.bare pre)).length := HL.out.2 hp
      have hwb := in_round (l := w2.heap.size + 1) (writeByte_any _ _ _ 44 _ A HV.out (by have := HL.out.1; omega) hbA)
      gi_wp2_with (refine ⟨trivial, rfl, ?_⟩; refine hlenc.mono ?_; rintro e W0 ⟨rfl, rfl⟩)
      gi_wp2_with (refine ⟨trivial, rfl, ?_⟩; refine hwb.mono ?_; rintro e W1 ⟨rfl, hbo⟩; have H1 := go W1 (by rw [if_pos hp]; exact TSt.write HO.out HDt.out (by omega) HV.out HOWN.out (Keeps.refl _ _) HB.out hbo); obtain ⟨y1, y2⟩ := H1.out.cells hBx hnO HCX.out; clear hbo hwb hlenc go x1 x2)
      have htab : Tab W1 := by obtain ⟨_, _, _, _, hb⟩ := H1.out; exact tab_later HTAB.out hb
      have hit := in_round (l := w2.heap.size + 1) (itoa_any x.1.1 (by omega) (by omega) W1 htab)
      clear htab
      gi_wp2_with (refine ⟨trivial, rfl, ?_⟩; refine hit.mono ?_; rintro e W2 ⟨rfl, hk2⟩; have H2 := Lib.hid (H1.out.later hk2); clear hk2 hit y1 y2)
      obtain ⟨v2, b2, o2, k2, bl2⟩ := H2.out
      have hd1 := dec_len (n := x.1.1) (by omega) (by omega)
      have hws := in_round (l := w2.heap.size + 1) (writeString_any _ _ _ (Dig.dec x.1.1) (dec_ne (by omega)) v2 W2 b2 (by have := HSEP.out; omega) (by omega) (by have := k2.size; omega))
      have B2 := Lib.hid b2
      have O2 := Lib.hid o2
      have K2 := Lib.hid k2
      have L2 := Lib.hid bl2
      clear b2 o2 k2 bl2
      by_cases hgt : x.1.1 < x.1.2
      all_goals gi_wp2_with (refine ⟨trivial, rfl, ?_⟩; refine hws.mono ?_; rintro e W3 ⟨⟨rv, rfl⟩, hbo⟩; have H3 := Lib.hid (TSt.write HO.out HDt.out (by omega) B2.out O2.out K2.out L2.out hbo); obtain ⟨y1, y2⟩ := H3.out.cells hBx hnO HCX.out; clear hbo hws)
      · obtain ⟨v3, b3, o3, k3, bl3⟩ := H3.out
        have hsz3 := k3.size
        have hwm := in_round (l := w2.heap.size + 1) (writeByte_any _ _ _ 45 v3 W3 b3 (by have := HSEP.out; rw [List.length_append]; omega) (by omega))
        have B3 := Lib.hid b3
        have O3 := Lib.hid o3
        have K3 := Lib.hid k3
        have L3 := Lib.hid bl3
        clear b3 o3 k3 bl3
        gi_wp2_with (refine ⟨trivial, rfl, ?_⟩; refine hwm.mono ?_; rintro e W4 ⟨rfl, hbo⟩; have H4 := Lib.hid (TSt.write HO.out HDt.out (by omega) B3.out O3.out K3.out L3.out hbo); clear y1 y2; obtain ⟨y1, y2⟩ := H4.out.cells hBx hnO HCX.out; clear hbo hwm)
        have htab : Tab W4 := by obtain ⟨_, _, _, _, hb⟩ := H4.out; exact tab_later HTAB.out hb
        have hit := in_round (l := w2.heap.size + 1) (itoa_any x.1.2 (by omega) (by omega) W4 htab)
        clear htab
        gi_wp2_with (refine ⟨trivial, rfl, ?_⟩; refine hit.mono ?_; rintro e W5 ⟨rfl, hk5⟩; have H5 := Lib.hid (H4.out.later hk5); clear hk5 hit y1 y2)
        obtain ⟨v5, b5, o5, k5, bl5⟩ := H5.out
        have hd2 := dec_len (n := x.1.2) (by omega) (by omega)
        have hws := in_round (l := w2.heap.size + 1) (writeString_any _ _ _ (Dig.dec x.1.2) (dec_ne (by omega)) v5 W5 b5 (by have := HSEP.out; rw [List.length_append, List.length_append, List.length_singleton]; omega) (by omega) (by have := k5.size; omega))
        have B5 := Lib.hid b5
        have O5 := Lib.hid o5
        have K5 := Lib.hid k5
        have L5 := Lib.hid bl5
        clear b5 o5 k5 bl5
        gi_wp2_with (refine ⟨trivial, rfl, ?_⟩; refine hws.mono ?_; rintro e W6 ⟨⟨rv2, rfl⟩, hbo⟩; have H6 := Lib.hid (TSt.write HO.out HDt.out (by omega) B5.out O5.out K5.out L5.out hbo); clear hbo hws)
        refine TSt.fin HO.out ?_
        have e1 : textS (Sp.bare (pre ++ [x])) = textS (Sp.bare pre) ++ (if 0 < pre.length then [44] else []) ++ Dig.dec x.1.1 ++ [45] ++ Dig.dec x.1.2 := by
          rw [show Sp.bare (pre ++ [x]) = Sp.bare pre ++ [x.1] by simp, textS_snoc, List.length_map]
          unfold oneT
          rw [if_pos hgt]
          simp
        rw [e1]
        exact H6.out
      · refine TSt.fin HO.out ?_
        have e1 : textS (Sp.bare (pre ++ [x])) = textS (Sp.bare pre) ++ (if 0 < pre.length then [44] else []) ++ Dig.dec x.1.1 := by
          rw [show Sp.bare (pre ++ [x]) = Sp.bare pre ++ [x.1] by simp, textS_snoc, List.length_map]
          unfold oneT
          rw [if_neg (show ¬ x.1.1 < x.1.2 by omega), List.append_nil]
        rw [e1]
        exact H3.out
    · have h0 : (textS (Sp.bare pre)).length = 0 := by have := HL.out.1; omega
      rw [h0] at hlenc
      gi_wp2_with (refine ⟨trivial, rfl, ?_⟩; refine hlenc.mono ?_; rintro e W1 ⟨rfl, hw⟩; have H1 := go W1 (by rw [if_neg hp, List.append_nil]; subst hw; exact ⟨v, HV.out, HOWN.out, Keeps.refl _ _, HB.out⟩); obtain ⟨y1, y2⟩ := H1.out.cells hBx hnO HCX.out; clear hw hlenc go x1 x2)
      have htab : Tab W1 := by obtain ⟨_, _, _, _, hb⟩ := H1.out; exact tab_later HTAB.out hb
      have hit := in_round (l := w2.heap.size + 1) (itoa_any x.1.1 (by omega) (by omega) W1 htab)
      clear htab
      gi_wp2_with (refine ⟨trivial, rfl, ?_⟩; refine hit.mono ?_; rintro e W2 ⟨rfl, hk2⟩; have H2 := Lib.hid (H1.out.later hk2); clear hk2 hit y1 y2)
      obtain ⟨v2, b2, o2, k2, bl2⟩ := H2.out
      have hd1 := dec_len (n := x.1.1) (by omega) (by omega)
      have hws := in_round (l := w2.heap.size + 1) (writeString_any _ _ _ (Dig.dec x.1.1) (dec_ne (by omega)) v2 W2 b2 (by have := HSEP.out; omega) (by omega) (by have := k2.size; omega))
      have B2 := Lib.hid b2
      have O2 := Lib.hid o2
      have K2 := Lib.hid k2
      have L2 := Lib.hid bl2
      clear b2 o2 k2 bl2
      by_cases hgt : x.1.1 < x.1.2
      all_goals gi_wp2_with (refine ⟨trivial, rfl, ?_⟩; refine hws.mono ?_; rintro e W3 ⟨⟨rv, rfl⟩, hbo⟩; have H3 := Lib.hid (TSt.write HO.out HDt.out (by omega) B2.out O2.out K2.out L2.out hbo); obtain ⟨y1, y2⟩ := H3.out.cells hBx hnO HCX.out; clear hbo hws)
      · obtain ⟨v3, b3, o3, k3, bl3⟩ := H3.out
        have hsz3 := k3.size
        have hwm := in_round (l := w2.heap.size + 1) (writeByte_any _ _ _ 45 v3 W3 b3 (by have := HSEP.out; rw [List.length_append]; omega) (by omega))
        have B3 := Lib.hid b3
        have O3 := Lib.hid o3
        have K3 := Lib.hid k3
        have L3 := Lib.hid bl3
        clear b3 o3 k3 bl3
        gi_wp2_with (refine ⟨trivial, rfl, ?_⟩; refine hwm.mono ?_; rintro e W4 ⟨rfl, hbo⟩; have H4 := Lib.hid (TSt.write HO.out HDt.out (by omega) B3.out O3.out K3.out L3.out hbo); clear y1 y2; obtain ⟨y1, y2⟩ := H4.out.cells hBx hnO HCX.out; clear hbo hwm)
        have htab : Tab W4 := by obtain ⟨_, _, _, _, hb⟩ := H4.out; exact tab_later HTAB.out hb
        have hit := in_round (l := w2.heap.size + 1) (itoa_any x.1.2 (by omega) (by omega) W4 htab)
        clear htab
        gi_wp2_with (refine ⟨trivial, rfl, ?_⟩; refine hit.mono ?_; rintro e W5 ⟨rfl, hk5⟩; have H5 := Lib.hid (H4.out.later hk5); clear hk5 hit y1 y2)
        obtain ⟨v5, b5, o5, k5, bl5⟩ := H5.out
        have hd2 := dec_len (n := x.1.2) (by omega) (by omega)
        have hws := in_round (l := w2.heap.size + 1) (writeString_any _ _ _ (Dig.dec x.1.2) (dec_ne (by omega)) v5 W5 b5 (by have := HSEP.out; rw [List.length_append, List.length_append, List.length_singleton]; omega) (by omega) (by have := k5.size; omega))
        have B5 := Lib.hid b5
        have O5 := Lib.hid o5
        have K5 := Lib.hid k5
        have L5 := Lib.hid bl5
        clear b5 o5 k5 bl5
        gi_wp2_with (refine ⟨trivial, rfl, ?_⟩; refine hws.mono ?_; rintro e W6 ⟨⟨rv2, rfl⟩, hbo⟩; have H6 := Lib.hid (TSt.write HO.out HDt.out (by omega) B5.out O5.out K5.out L5.out hbo); clear hbo hws)
        refine TSt.fin HO.out ?_
        have e1 : textS (Sp.bare (pre ++ [x])) = textS (Sp.bare pre) ++ (if 0 < pre.length then [44] else []) ++ Dig.dec x.1.1 ++ [45] ++ Dig.dec x.1.2 := by
          rw [show Sp.bare (pre ++ [x]) = Sp.bare pre ++ [x.1] by simp, textS_snoc, List.length_map]
          unfold oneT
          rw [if_pos hgt]
          simp
        rw [e1]
        exact H6.out
      · refine TSt.fin HO.out ?_
        have e1 : textS (Sp.bare (pre ++ [x])) = textS (Sp.bare pre) ++ (if 0 < pre.length then [44] else []) ++ Dig.dec x.1.1 := by
          rw [show Sp.bare (pre ++ [x]) = Sp.bare pre ++ [x.1] by simp, textS_snoc, List.length_map]
          unfold oneT
          rw [if_neg (show ¬ x.1.1 < x.1.2 by omega), List.append_nil]
        rw [e1]
        exact H3.out
  case done =>
    rintro O D xs A hD hDs hO - hSx ⟨⟨v, hv, hown⟩, hB⟩ hDd
    have hk : Keeps (fun k => k ≠ D) A (A.putObj D (.deferred none)) := (Keeps.refl _ A).putObj (fun h => h rfl) _
    rw [hSx] at hv
    have hsc := bldString_any _ _ _ _ _ hv hB.size
    have HDd := Lib.hid hDd
    clear hv hk hDd
    gi_wp2_with (refine ⟨trivial, rfl, ?_⟩; refine (callsIn_wide.2 hsc).mono ?_; rintro e W1 ⟨rfl, hb1, ho1⟩)
    have hDd1 : W1.heap[D]? = some (.deferred (some [])) := ho1 D _ HDd.out (by simp; omega) (by simp)
    refine ⟨by simp, .inl ⟨_, _, rfl, run_takeDeferred hDd1, ?_⟩⟩
    refine ⟨_, results_tmp rfl _ _ _, rfl, (hB.trans hb1).trans (((Keeps.refl (fun k => k ≠ D) W1).putObj (fun h => h rfl) (.deferred none)).below (hB.trans hb1).size fun k hk => by omega)⟩
  case stop =>
    rintro O D c pre A _ _ _ _ h _ _
    exact h.elim

end Go.Proofs.YtlbmkgnfbkimaaaDoor
