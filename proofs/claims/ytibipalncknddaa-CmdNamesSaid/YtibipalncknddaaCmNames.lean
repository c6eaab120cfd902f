/- The contracts of cmd.Keys and cmd.Names. -/
import Derived.Test.YtibipalncknddaaCmCheck
import Derived.Test.YtibipalncknddaaCmNamesPlain
import Derived.Test.YtibipalncknddaaShelf
namespace Go.Proofs.Ytibipalncknddaa
open Go.RowKit Go.Shelf
attribute [local go_sem] Oper.semAt_some

theorem Cm.keysOf_none {ws : List (List UInt8)} (h : Cm.checkS ws = none) : Cm.keysOf ws = [] := by unfold Cm.keysOf; rw [h]
theorem Cm.keysOf_some {ws : List (List UInt8)} {s : Cm.Sp} (h : Cm.checkS ws = some s) : Cm.keysOf ws = Cm.keysS s ws := by unfold Cm.keysOf; rw [h]

theorem Cm.check_parts {ws : List (List UInt8)} {s : Cm.Sp} (h : Cm.checkS ws = some s) : 0 < ws.length ∧ ws.length ≤ 100 ∧ Cm.findS (ws.getD 0 []) = some s ∧ Cm.countOk s ws.length = true := by
  unfold Cm.checkS at h
  split at h
  · cases h
  · rename_i hn
    cases hf : Cm.findS (ws.getD 0 []) with
    | none => rw [hf] at h; cases h
    | some t =>
      rw [hf] at h
      simp only at h
      split at h
      · rename_i hc
        cases h
        rw [Bool.and_eq_true] at hc
        exact ⟨by omega, by omega, rfl, hc.1⟩
      · cases h

theorem Cm.keysS_short {s : Cm.Sp} {ws : List (List UInt8)} (h : ∀ x, (ws.getD x []).length ≤ 9223372036854775807) : ∀ k ∈ Cm.keysS s ws, k.length ≤ 9223372036854775807 := by
  intro k hk
  unfold Cm.keysS at hk
  obtain ⟨i, _, rfl⟩ := List.mem_map.1 hk
  exact h _

/-- what Keys hands back. -/
def KOut (w : World) (ks : List (List UInt8)) (e : Ending) (W' : World) : Prop := ∃ a' cap', e = .returned (.slice a' ks.length cap') ∧ Wds W' a' cap' ks ∧ Below w.heap.size w W'

theorem wds_nil (w : World) : Wds w none 0 [] := ⟨Nat.le_refl _, by decide, by simp, .inl rfl⟩

set_option maxRecDepth 100000 in
set_option maxHeartbeats 2000000 in
theorem keysDev_any (a : Option Addr) (cap : Nat) (ws : List (List UInt8)) (w : World) (hW : Wds w a cap ws) : CallsIn Fence.wide 0 Try.prog 14 #[.slice a ws.length cap] w (KOut w (Cm.keysOf ws)) := by
  have hck := check_any a cap ws w hW
  unfold chkV at hck
  have HW := Lib.hid hW
  clear hW
  cases hc : Cm.checkS ws with
  | none =>
    rw [hc] at hck
    rw [Cm.keysOf_none hc]
    clear hc
    refine callsIn_of_wp Try.func14 rfl trivial ?_ rfl
    simp only [Try.ntmps14, List.size_toArray, List.length_cons, List.length_nil, Nat.reduceAdd, Nat.reduceSub, Array.replicate_succ, Array.replicate_zero, List.push_toArray, List.append_toArray, List.nil_append, List.cons_append]
    gi_wp2_with (refine ⟨trivial, rfl, ?_⟩; refine hck.mono ?_; rintro e w1 ⟨rfl, hb1⟩; have HB1 := Lib.hid hb1; clear hb1; simp only [spV, zeroSp])
    go_ret
    exact ⟨_, _, rfl, wds_nil _, HB1.out.alloc HB1.out.size _⟩
  | some s =>
    rw [hc] at hck
    rw [Cm.keysOf_some hc]
    obtain ⟨h0, h1, hf, hcn⟩ := Cm.check_parts hc
    have hok := Cm.findS_ok hf
    have hshort := Cm.keysS_short (s := s) (ws := ws) fun x => HW.out.len (k := x)
    have hklen : (Cm.keysS s ws).length ≤ 1000 := by
      have hl := Cm.countOk_least hcn
      rw [Cm.keysS_len]
      obtain ⟨_, _, _, _, _, _, hh⟩ := id hok
      rcases hh with ⟨hf0, _⟩ | ⟨hf1, hst, _⟩
      · simp [Cm.cnt, hf0]
      · have hll := Cm.lastI_lt hok hf1 hl
        unfold Cm.cnt
        rw [if_neg (by omega)]
        split <;> omega
    have hcol : ∀ (w2 w3 : World) (B1 : Nat), Below w.heap.size w w2 → w2.heap.size = B1 → w3 = (w2.alloc (.cells (spL s).toArray 26)).alloc (.cells #[.slice a ws.length cap] 22) →
        CallsIn Fence.wide 0 Try.prog 26 #[.func (.func 28) #[] #[.pointer (some ⟨B1, 0, none⟩), .pointer (some ⟨B1 + 1, 0, none⟩)]] w3 (KOut w (Cm.keysS s ws)) := by
      rintro w2 w3 B1 hb2 rfl rfl
      obtain ⟨w3, hw3⟩ : ∃ w3, (w2.alloc (.cells (spL s).toArray 26)).alloc (.cells #[.slice a ws.length cap] 22) = w3 := ⟨_, rfl⟩
      have k1 : SpBox w3 w2.heap.size s := by rw [← hw3]; exact ((Keeps.refl (fun _ => True) _).alloc _).heap (World.alloc_heap_new w2 _) trivial
      have k2 : Boxed w3 (w2.heap.size + 1) 22 (.slice a ws.length cap) := by
        rw [← hw3]
        have := Boxed.new (w2.alloc (.cells (spL s).toArray 26)) 22 (.slice a ws.length cap)
        rwa [World.size_alloc] at this
      have hs3 : w3.heap.size = w2.heap.size + 2 := by rw [← hw3]; simp
      have hb3 : Below w.heap.size w w3 := by rw [← hw3]; exact (hb2.alloc hb2.size _).alloc (by have := hb2.size; simp; omega) _
      rw [hw3]
      have hwd := HW.out.later hb3
      have hsq := keys_seq w2.heap.size (w2.heap.size + 1) s a cap ws w3 k1 k2 (by omega) hwd hok hcn (fun k => k = w2.heap.size ∨ k = w2.heap.size + 1 ∨ (k < w3.heap.size ∧ ∃ off, a = some ⟨k, off, none⟩)) (fun _ => False) (fun k hk => hk.imp id (Or.imp id fun ⟨o, e⟩ => ⟨by
        obtain ⟨b, off, ha, hb, _⟩ := hwd.get h0
        rw [ha] at e
        cases e
        exact hb, o, e⟩))
      refine (collect_any _ _ (enters_of Try.func28 (by kernel_rfl) rfl) true _ _ _ _ w3 w3 (by rw [← Cm.keysS_len]; omega) hsq (Below.refl _ _) (fun k hk => by rcases hk with rfl | rfl | hk <;> omega)).mono ?_
      rintro e W4 ⟨v, ys, rfl, rfl, hrow, -, hB⟩
      obtain ⟨a', cap', rfl, hwd', -⟩ := wds_of_row hrow hshort
      exact ⟨a', cap', rfl, hwd', hb3.trans (hB.mono hb3.size)⟩
    have HCO := Lib.hid hcol
    clear hc hcol hf hcn hok hshort hklen h0 h1
    obtain ⟨nm, least, most, first, last, step, wb⟩ := s
    refine callsIn_of_wp Try.func14 rfl trivial ?_ rfl
    simp only [Try.ntmps14, List.size_toArray, List.length_cons, List.length_nil, Nat.reduceAdd, Nat.reduceSub, Array.replicate_succ, Array.replicate_zero, List.push_toArray, List.append_toArray, List.nil_append, List.cons_append]
    gi_wp2_with (refine ⟨trivial, rfl, ?_⟩; refine hck.mono ?_; rintro e w1 ⟨rfl, hb1⟩; have HB1 := Lib.hid hb1; clear hb1; simp only [spV])
    refine ⟨trivial, rfl, (keysIter_any ⟨nm, least, most, first, last, step, wb⟩ _ _ _ _).mono ?_⟩
    rintro e w3 ⟨rfl, hw3⟩
    have hc3 := HCO.out _ w3 (w1.heap.size + 1) (HB1.out.alloc HB1.out.size _) (by simp) hw3
    have HC3 := Lib.hid hc3
    clear hw3 hc3
    gi_wp2_with (refine ⟨trivial, rfl, ?_⟩; refine HC3.out.mono ?_; rintro e w4 ⟨a', cap', rfl, hw4⟩; have HW4 := Lib.hid hw4; clear hw4)
    go_ret
    exact ⟨a', cap', rfl, HW4.out⟩

/-- the box and the row of the names. -/
def NInv (w : World) (O : Nat → Prop) (pre : List Cm.Sp) (W : World) : Prop :=
  (∃ v, Boxed W w.heap.size 22 v ∧ W.ownsRow (w.heap.size + 1) 9 1 v pre.length (wcells (pre.map Cm.Sp.nm)) ∧ ∀ g, v.ownBlock = some g → O g) ∧ Below w.heap.size w W

/-- slices.Sort at the names. -/
theorem sort_row {W : World} {B : Nat} {v : Value} (hrow : W.ownsRow B 9 1 v 54 (wcells (Cm.tab.map Cm.Sp.nm))) :
    ∃ g cap, v = .slice (some ⟨g, 0, none⟩) 54 cap ∧ B ≤ g ∧ g < W.heap.size ∧ 54 ≤ cap ∧ cap ≤ 9223372036854775807 ∧
      Calls Try.prog 27 #[v] W fun e W' => e = .returned (.tuple #[]) ∧ Wds W' (some ⟨g, 0, none⟩) cap Cm.names ∧ Keeps (fun k => k ≠ g) W W' := by
  have hl : (Cm.tab.map Cm.Sp.nm).length = 54 := by rw [List.length_map]; exact Cm.tab_len
  have hshort : ∀ s ∈ Cm.tab.map Cm.Sp.nm, s.length ≤ 9223372036854775807 := by
    intro s hs
    have := Cm.names_short s (Cm.names_perm.subset hs)
    omega
  rw [← hl] at hrow
  obtain ⟨a, cap, rfl, hwd, hown⟩ := wds_of_row hrow hshort
  obtain ⟨g, rfl, hgB, hglt, hfz⟩ := hown (by intro h; rw [h] at hl; simp at hl)
  obtain ⟨hc1, hc2, _, hcell⟩ := hwd
  have hcell' := hcell.resolve_left (by intro h; rw [h] at hl; simp at hl)
  obtain ⟨b, off, he, _, hcc⟩ := hcell'
  cases he
  have hH : Go.Sort.Holds encStr W g 0 (Cm.tab.map Cm.Sp.nm).toArray := by
    intro j hj
    simp only [List.size_toArray] at hj
    have hlt : j < Cm.tab.length := by simpa using hj
    refine ⟨?_, hfz _⟩
    rw [hcc j hj, Cm.getD_eq hj]
    simp [hlt]
  refine ⟨g, cap, by rw [hl], hgB, hglt, by omega, hc2, ?_⟩
  refine (Try.slices_Sort_string g 0 cap (Cm.tab.map Cm.Sp.nm) W hH hglt (by omega)).mono ?_
  rintro e W' ⟨he, n, os, rfl⟩
  rw [Cm.sort_names]
  have hsz : Cm.names.toArray.size = (Cm.tab.map Cm.Sp.nm).toArray.size := by simp [Cm.names_len, Cm.tab_len]
  have hh : Go.Sort.Holds encStr (Go.Sort.grow (Go.Sort.putRow encStr (Go.Sort.ahead W n) g 0 Cm.names.toArray) os) g 0 Cm.names.toArray :=
    Go.Sort.holds_grow _ _ _ _ _ _ (by simpa [Go.Sort.ahead] using hglt) (Go.Sort.holds_putRow _ _ _ _ (Cm.tab.map Cm.Sp.nm).toArray _ (Go.Sort.holds_ahead _ _ _ _ _ _ hH) hsz)
  refine ⟨he, ⟨by rw [Cm.names_len]; omega, hc2, fun s hs => by have := Cm.names_short s hs; omega, .inr ⟨g, 0, rfl, ?_, ?_⟩⟩, ?_⟩
  · rw [Go.Sort.size_grow, Go.Sort.size_putRow]
    show g < W.heap.size + os.size
    omega
  · intro k hk
    have := (hh k (by simpa using hk)).1
    rw [this, Cm.getD_eq hk]
    simp [hk]
  · refine ⟨rfl, rfl, rfl, ?_, ?_⟩
    · rw [Go.Sort.size_grow, Go.Sort.size_putRow]
      show W.heap.size ≤ W.heap.size + os.size
      omega
    · intro k hk hne
      rw [Go.Sort.heap_grow_old _ _ (by rw [Go.Sort.size_putRow]; exact hk)]
      simp only [Go.Sort.putRow, Go.Sort.mapBlock]
      show (W.heap.modify g _)[k]? = _
      rw [Array.getElem?_modify, if_neg (fun e => hne e.symm)]

set_option maxRecDepth 100000 in
set_option maxHeartbeats 4000000 in
theorem names_any (w : World) : CallsIn Fence.wide 0 Try.prog 16 #[] w (KOut w Cm.names) := by
  obtain ⟨i0, hi, hz0, hz1, hz2⟩ := info_parts info9
  refine callsIn_of_wp_marks Try.func16 rfl trivial ?_ rfl
  simp only [Try.ntmps16, List.size_toArray, List.length_nil, Nat.reduceSub, Array.replicate_succ, Array.replicate_zero, List.push_toArray, List.append_toArray, List.nil_append]
  gi_wp2_with (refine ⟨trivial, rfl, ?_⟩; refine (commands_any _).mono ?_; rintro e w1 ⟨rfl, rfl⟩)
  obtain ⟨w2, hw2⟩ : ∃ w2, w.alloc (.cells #[.slice none 0 0] 22) = w2 := ⟨_, rfl⟩
  have hs2 : w2.heap.size = w.heap.size + 1 := by rw [← hw2]; simp
  have hbox0 : Boxed w2 w.heap.size 22 (.slice none 0 0) := by rw [← hw2]; exact Boxed.new w 22 _
  have hBw : Below w.heap.size w w2 := by rw [← hw2]; exact (Below.refl _ w).alloc (Nat.le_refl _) _
  rw [hw2]
  have hsb : w.heap.size + 1 ≤ w2.heap.size := by omega
  clear hw2 hs2
  refine wpIn_rangeT (gf := 29) (lb := #[]) rfl (enters_of Try.func29 (by kernel_rfl) rfl)
    (table_seq (fun _ => False) (fun _ => False) w2) (Below.refl _ _) (fun k h => h.elim) (fun k h => h.elim) (fun _ => rfl)
    (NInv w) (fun _ _ _ _ => False) ?hI (fun _ _ _ _ _ h _ => h) (fun h => by cases h) ⟨⟨_, hbox0, World.ownsRow_nil _ _ _ _, by simp [Value.ownBlock]⟩, hBw⟩
    (SpVar (w2.heap.size + 2) (fun Bx x => { tmps := #[.slice none 0 0, .pointer (some ⟨w.heap.size, 0, none⟩), .pointer (some ⟨Bx, 0, none⟩), .func (.func 29) #[] #[], spV x, undef, undef, undef, undef, undef, undef, undef, undef], defers := [] }))
    (fun O x a' A C h hk => h.later (by omega) hk) ?assign ?body ?done ?stop
  case hI =>
    rintro O s A C ⟨⟨v, h1, h2, h3⟩, h4⟩ hk
    have own : ∀ k, k < w2.heap.size → IterS (fun _ => False) w2.heap.size O k := fun k h => ⟨id, .inl h⟩
    exact ⟨⟨v, hk.heap h1 (own _ (by omega)), owns_kept h2 hk (fun g hg => ⟨id, .inr (h3 g hg)⟩), h3⟩, h4.trans (hk.below h4.size fun k hk' => own k (by omega))⟩
  case assign =>
    intro O pre x A K hO hA ⟨⟨v, h1, h2, h3⟩, h4⟩ hK
    have HK := Lib.hid hK
    clear hK
    unfold encSp
    have hkA : ∀ o, Keeps (fun _ => True) A (A.alloc o) := fun o => (Keeps.refl _ A).alloc o
    have HI : Hid (∀ o, NInv w O pre (A.alloc o)) := Lib.hid fun o => ⟨⟨v, h1.alloc _, h2.alloc _, h3⟩, h4.alloc h4.size _⟩
    clear h1 h2 h3 h4 hkA
    obtain ⟨nm, least, most, first, last, step, wb⟩ := x
    simp only [spV]
    gi_wp2
    exact HK.out _ _ ((Keeps.refl _ _).alloc _) (HI.out _) ⟨A.heap.size, by omega, fun h => by have := (hO _ h).2; omega, World.alloc_heap_new A _, rfl⟩
  case body =>
    rintro O pre x a' A hO hA ⟨r, hr⟩ ⟨⟨v, hv, hrow, hown⟩, hB⟩ ⟨Bx, hBx, hnO, hcx, rfl⟩ hlen
    have b1 := hv.cell
    obtain ⟨c0, -⟩ := hcx.at
    have hszB := hB.size
    obtain ⟨nm, least, most, first, last, step, wb⟩ := x
    gi_wp2_with (gi_at_builtin; refine wpListIn_append_own_at _ rfl (.tmp 5) (.tmp 8) 22 rfl (w.heap.size + 1) 9 i0 (.string ⟨#[]⟩) 1 16 Try.underlying22 hi hz0 hz1 hz2 rfl (by decide) _ _ _ rfl (hrow.alloc _) ⟨A.heap.size, 0, none⟩ 1 1 [.string ⟨nm.toArray⟩] rfl rfl ?c1 ?c2 ?c3 ?c4 ?c5 ?_)
    case c2 => rfl
    case c3 => unfold maxLen; omega
    case c4 => omega
    intro v' w1 hown1 hgrow _ hat
    obtain ⟨g', cap', rfl⟩ := ownsRow_succ hown1
    have hkA : Keeps (fun k => some k ≠ v.ownBlock) A w1 := ((Keeps.refl _ A).alloc _).trans (Keeps.of_grown hgrow fun r e h => h e.symm)
    have hvne : some w.heap.size ≠ v.ownBlock := fun e => by have := (hrow.lt _ e.symm).1; omega
    have hv1 : Boxed w1 w.heap.size 22 v := hkA.heap hv hvne
    have c1 := hv1.cell
    have c2 := hv1.frozen
    have hfin := collect_end (x := nm) (b := w2.heap.size) (Dt := fun _ => False) hv hrow hown hB hO (fun k h => h.elim) (by omega) rfl hown1 hkA hat
    have hfin' : ∀ aa, ownPostT (RoundS (fun _ => False) (fun _ => False) w2.heap.size O) O (NInv w) (fun _ _ _ _ => False) (pre ++ [⟨nm, least, most, first, last, step, wb⟩]) A .normal aa (w1.setCell ⟨w.heap.size, 0, none⟩ (.slice (some ⟨g', 0, none⟩) (pre.length + 1) cap')) := by
      intro aa
      obtain ⟨g1, O', g2, ⟨v', g3, g4, -, g6⟩, g7⟩ := hfin
      exact ⟨g1, O', g2, ⟨v', g3, by simpa [wcells] using g4, g6⟩, g7⟩
    have HF := Lib.hid hfin'
    clear hfin hfin' hown1 hgrow hat hkA hvne hv1 hrow hown hv hcx c0
    gi_wp2
    exact HF.out _
  case done =>
    rintro O D xs A hD hDs hO - rfl ⟨⟨v, hv, hrow, hown⟩, hB⟩ hDd
    rw [Cm.tab_len] at hrow
    obtain ⟨g, cap, rfl, hg1, hg2, hcp, hcp2, hsort⟩ := sort_row hrow
    have b1 := hv.cell
    have hgD : g ≠ D := by have := (hO g (hown g rfl)).1; omega
    have HSo := Lib.hid (callsIn_wide.2 hsort : CallsIn Fence.wide 0 Try.prog _ _ _ _)
    have HV := Lib.hid hv
    clear hsort hrow hown hv
    gi_wp2_with fail
    refine ⟨trivial, rfl, HSo.out.mono ?_⟩
    rintro e w3 ⟨rfl, hwd, hk3⟩
    have HWd := Lib.hid hwd
    have HK3 := Lib.hid hk3
    have hb3 : Boxed w3 w.heap.size 22 (.slice (some ⟨g, 0, none⟩) 54 cap) := hk3.heap HV.out (by omega)
    have b3 := hb3.cell
    clear hwd hk3 hb3
    gi_wp2
    have hDn := HK3.out.heap hDd (Ne.symm hgD)
    refine ⟨by simp, .inl ⟨_, _, rfl, run_takeDeferred hDn, ?_⟩⟩
    have hkD : Keeps (fun k => k ≠ D) w3 (w3.putObj D (.deferred none)) := (Keeps.refl _ _).putObj (fun h => h rfl) _
    refine ⟨_, results_tmp rfl _ _ _, some ⟨g, 0, none⟩, cap, by rw [Cm.names_len]; rfl, ?_, ?_⟩
    · exact HWd.out.keep hkD.size fun b off he hlt => by cases he; exact hkD.block _ hlt hgD
    · exact (hB.trans (HK3.out.below hB.size fun k hk => by omega)).trans (hkD.below (Nat.le_trans hB.size HK3.out.size) fun k hk => by omega)
  case stop =>
    rintro O D c pre A _ _ _ _ _ h _
    exact h.elim

end Go.Proofs.Ytibipalncknddaa
