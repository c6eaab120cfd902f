/- The contracts of rulesFor, of the iterator over the rules, and of find, of the program's exec. -/
import Derived.Test.YtokcbcjonbjkgaaGreatDoorEcRules
import Derived.Test.YtokcbcjonbjkgaaGreatDoorSeqK
import Derived.Scope
import Derived.Laws.EntriesVeiled
import Derived.Test.YtokcbcjonbjkgaaGreatDoorRoundWp
namespace Go.Proofs.YtokcbcjonbjkgaaGreatDoor
open Go.RowKit Go.Shelf
attribute [local go_sem] Oper.semAt_some
set_option linter.unusedVariables false
set_option linter.unusedSimpArgs false

theorem ecScope {P : Program} {c : Code} {Q : Exit → Act → World → Prop} {a : Act} {w : World} (h : c.wpIn Fence.wide 0 P (Exit.noGoto Q) a w) : (Code.scope c).wpIn Fence.wide 0 P Q a w :=
  wpIn_wide.2 (wp_scope_straight (wpIn_wide.1 h))

/-- a rule as the iterator hands it over: with the block of its numbers. -/
structure Re where
  k : Int
  r : Ru.Rl
  na : Option Nat
def Re.rk (x : Re) : Ru.Rk := ⟨x.k, x.r⟩
def encRe (x : Re) : Array Value := #[rlV x.k x.r x.na]
def ReT (x : Re) (W : World) : Prop := NumsIn W x.na x.r.ids
/-- the rules of a kind. -/
def Ru.of (k : Nat) : List Ru.Rl := match k with | 1 => Ru.tabTexts | 2 => Ru.tabHashes | 3 => Ru.tabLists | 4 => Ru.tabSets | _ => Ru.tabAny
theorem rulesFor_any (k : Nat) (hk : k ≤ 4) (w : World) : Calls Tryz.prog 40 #[.int .i64 (k : Int)] w (RlOut (Ru.of k) w) := by
  have h : k = 0 ∨ k = 1 ∨ k = 2 ∨ k = 3 ∨ k = 4 := by omega
  rcases h with rfl | rfl | rfl | rfl | rfl
  · have HC := Lib.hid (rulesAny_any w)
    go_enter Tryz.func40, Tryz.ntmps40
    go_wp2_with (refine (HC.out).mono ?_; rintro e w1 ⟨b, rs, rfl, h1, h2, h3, h4, h5⟩)
    go_ret
    exact ⟨b, rs, rfl, h1, h2, h3, h4, h5⟩
  · have HC := Lib.hid (rulesTexts_any w)
    go_enter Tryz.func40, Tryz.ntmps40
    go_wp2_with (refine (HC.out).mono ?_; rintro e w1 ⟨b, rs, rfl, h1, h2, h3, h4, h5⟩)
    go_ret
    exact ⟨b, rs, rfl, h1, h2, h3, h4, h5⟩
  · have HC := Lib.hid (rulesHashes_any w)
    go_enter Tryz.func40, Tryz.ntmps40
    go_wp2_with (refine (HC.out).mono ?_; rintro e w1 ⟨b, rs, rfl, h1, h2, h3, h4, h5⟩)
    go_ret
    exact ⟨b, rs, rfl, h1, h2, h3, h4, h5⟩
  · have HC := Lib.hid (rulesLists_any w)
    go_enter Tryz.func40, Tryz.ntmps40
    go_wp2_with (refine (HC.out).mono ?_; rintro e w1 ⟨b, rs, rfl, h1, h2, h3, h4, h5⟩)
    go_ret
    exact ⟨b, rs, rfl, h1, h2, h3, h4, h5⟩
  · have HC := Lib.hid (rulesSets_any w)
    go_enter Tryz.func40, Tryz.ntmps40
    go_wp2_with (refine (HC.out).mono ?_; rintro e w1 ⟨b, rs, rfl, h1, h2, h3, h4, h5⟩)
    go_ret
    exact ⟨b, rs, rfl, h1, h2, h3, h4, h5⟩
/-- the rules of the first kinds. -/
def Ru.part : Nat → List Ru.Rk
  | 0 => []
  | k + 1 => Ru.part k ++ (Ru.of k).map (⟨(k : Int), ·⟩)
theorem Ru.part_tab : Ru.part 5 = Ru.tab := by rfl
theorem Ru.part_pre {k j : Nat} (hk : k < 5) (l : List Ru.Rk) (h : l = Ru.part k ++ ((Ru.of k).take j).map (⟨(k : Int), ·⟩)) : l <+: Ru.tab := by
  have h5 : ∀ k, k < 5 → Ru.part (k + 1) <+: Ru.tab := fun k hk => by
    have : k = 0 ∨ k = 1 ∨ k = 2 ∨ k = 3 ∨ k = 4 := by omega
    rcases this with rfl | rfl | rfl | rfl | rfl <;> exact ⟨_, rfl⟩
  rw [h]
  refine List.IsPrefix.trans ?_ (h5 k hk)
  show _ <+: Ru.part k ++ _
  rw [List.prefix_append_right_inj]
  exact (List.take_prefix j _).map _

set_option maxRecDepth 100000 in
set_option maxHeartbeats 4000000 in
theorem rules_seq (Dt : Nat → Prop) (w : World) : SeqK ReT Tryz.prog 39 #[] encRe Dt (fun ys => ys.map Re.rk = Ru.tab) (fun p => p.map Re.rk <+: Ru.tab) 54 w := by
  intro l J Jx W _ hJ hJx hY h0
  have HJ := Lib.hid hJ
  have HJx := Lib.hid hJx
  have HR := Lib.hid hY
  have H0 := Lib.hid h0
  clear hJ hJx hY h0
  refine callsIn_of_wp Tryz.func39 rfl trivial ?_ rfl
  simp only [Tryz.ntmps39, List.size_toArray, List.length_cons, List.length_nil, Nat.reduceAdd, Nat.reduceSub, Array.replicate_succ, Array.replicate_zero, List.push_toArray, List.append_toArray, List.nil_append, List.cons_append]
  gi_wp2
  refine ecScope ?_
  gi_wp2
  refine wpIn_label ?_
  simp only [Exit.then]
  gi_wp2
  obtain ⟨W1, hW1⟩ : ∃ W1, W.alloc (.cells #[.int .i64 0, .int .i64 1, .int .i64 2, .int .i64 3, .int .i64 4] 3) = W1 := ⟨_, rfl⟩
  have hk1 : Keeps (fun _ => True) W W1 := by rw [← hW1]; exact (Keeps.refl _ _).alloc _
  have hB1 : W1.heap[W.heap.size]? = some (.cells #[.int .i64 0, .int .i64 1, .int .i64 2, .int .i64 3, .int .i64 4] 3 (0, 0)) := by rw [← hW1]; exact World.alloc_heap_new _ _
  have hz1 : W1.heap.size = W.heap.size + 1 := by rw [← hW1]; simp
  rw [hW1]
  have HB1 := Lib.hid hB1
  have HJ1 := Lib.hid (HJ.out _ _ _ _ H0.out hk1)
  clear hW1 hB1 hk1
  gi_loopw [8] (fun i wr => ∃ (k : Nat) (O : Nat → Prop) (pre : List Re), k ≤ 5 ∧ i = .int .i64 k ∧ Hid (pre.map Re.rk = Ru.part k) ∧ (∀ j, O j → W.heap.size ≤ j ∧ j < wr.heap.size) ∧ ¬ O W.heap.size ∧ Hid (J O pre wr) ∧ Hid (Keeps (fun j => j = W.heap.size) W1 wr))
    (fun i _ => 5 - (intOf i).toNat)
  case atStart => exact ⟨0, _, [], by omega, rfl, Lib.hid rfl, fun j h => h.elim, fun h => h, HJ1, Lib.hid (Keeps.refl _ _)⟩
  case round =>
    obtain ⟨k, O, pre, hk, rfl, HP, hO, hbO, HJs, HK⟩ := hrel
    by_cases hlt : k < 5
    · have hcell : wr.cell? ⟨W.heap.size, k, none⟩ = some (.int .i64 (k : Int)) := by
        refine (HK.out.cell (p := ⟨W.heap.size, k, none⟩) (by show W.heap.size < _; omega) rfl).trans ?_
        rw [cell_of_row _ _ _ _ 3 (0, 0) HB1.out]
        have h : k = 0 ∨ k = 1 ∨ k = 2 ∨ k = 3 ∨ k = 4 := by omega
        rcases h with rfl | rfl | rfl | rfl | rfl <;> rfl
      have HC := Lib.hid (fun W => (callsIn_wide.2 (rulesFor_any k (by omega) W) : CallsIn Fence.wide 0 Tryz.prog _ _ _ _))
      have k1 : (k : Int) < 5 := by omega
      gi_wp2_with (refine ⟨trivial, rfl, ?_⟩; refine (HC.out _).mono ?_; rintro e W2 ⟨b, rs, rfl, h1, h2, h3, h4, h5⟩; have HR1 := Lib.hid h1; have HR2 := Lib.hid h2; have HR3 := Lib.hid h3; have HR4 := Lib.hid h4; have HR5 := Lib.hid h5; clear h1 h2 h3 h4 h5)
      have hlen : rs.length = (Ru.of k).length := by rw [← HR1.out, List.length_map]
      rw [← hlen]
      have hl14 : rs.length ≤ 14 := by
        rw [hlen]
        have h : k = 0 ∨ k = 1 ∨ k = 2 ∨ k = 3 ∨ k = 4 := by omega
        rcases h with rfl | rfl | rfl | rfl | rfl <;> decide
      have HLN := Lib.hid hlen
      have hpl : pre.length = (Ru.part k).length := by rw [← HP.out, List.length_map]
      have hpn : (Ru.part k).length + rs.length ≤ 54 := by
        rw [hlen]
        have h : k = 0 ∨ k = 1 ∨ k = 2 ∨ k = 3 ∨ k = 4 := by omega
        rcases h with rfl | rfl | rfl | rfl | rfl <;> decide
      have hpp : pre.length + rs.length ≤ 54 := by omega
      have hzk := HK.out.size
      have hzr := HR3.out.size
      have HJ2 := Lib.hid (HJ.out _ _ _ _ HJs.out HR3.out)
      have HK2 := Lib.hid (HK.out.trans (HR3.out.mono fun _ _ _ => trivial))
      obtain ⟨wo, rfl⟩ : ∃ wo : World, wo = wr := ⟨_, rfl⟩
      clear hlen hpl hpn hcell
      gi_loopw [15] (fun i wi => ∃ (n : Nat) (O2 : Nat → Prop) (xs : List Re), n ≤ rs.length ∧ i = .int .i64 n ∧ Hid (xs.map Re.rk = Ru.part k ++ ((Ru.of k).take n).map (⟨(k : Int), ·⟩)) ∧ xs.length = pre.length + n ∧ (∀ j, O2 j → W.heap.size ≤ j ∧ j < wi.heap.size) ∧ (∀ j, O2 j → O j ∨ W2.heap.size ≤ j) ∧ Hid (J O2 xs wi) ∧ Hid (Keeps (fun j => W.heap.size ≤ j ∧ ¬ O j) W2 wi))
        (fun i _ => rs.length - (intOf i).toNat)
      case atStart => exact ⟨0, O, pre, Nat.zero_le _, rfl, Lib.hid (by rw [HP.out]; simp), rfl, fun j hj => ⟨(hO j hj).1, by have := (hO j hj).2; omega⟩, fun j hj => .inl hj, HJ2, Lib.hid (Keeps.refl _ _)⟩
      case round =>
        obtain ⟨n, O2, xs, hn, rfl, HX, hxl, hO2, hO3, HJx2, HK3⟩ := hrel
        by_cases hlt2 : n < rs.length
        · have hnO : ∀ j, wo.heap.size ≤ j → ¬ O j := fun j hj h => by have := (hO j h).2; omega
          have hrow := HR2.out.keep HK3.out ⟨by have := HR4.out; omega, hnO _ HR4.out⟩ (fun x hx g hg => ⟨by have := HR5.out x hx g hg; omega, hnO _ (HR5.out x hx g hg)⟩)
          obtain ⟨⟨c0, c1, c2, c3⟩, hnums⟩ := hrow.2 n hlt2
          have hT : (Ru.of k).take (n + 1) = (Ru.of k).take n ++ [rs[n].1] := by
            have h1 : n < (Ru.of k).length := by rw [← HLN.out]; exact hlt2
            rw [List.take_succ_eq_append_getElem h1]
            congr 2
            simp [← HR1.out]
          have HT := Lib.hid hT
          obtain ⟨⟨⟨nm, ids, fn⟩, na⟩, hx⟩ : ∃ x, rs[n] = x := ⟨_, rfl⟩
          have hbl := hrow.1
          rw [hx] at c0 c2 c3 hnums HT
          clear hx hT hrow
          simp only [Nat.zero_add] at c0 c1 c2 c3 hnums
          have hz2 := HK3.out.size
          obtain ⟨fn', tmps, assign, body, hy, hRd⟩ := HR.out O2 xs ⟨(k : Int), ⟨nm, ids, fn⟩, na⟩ (wr.alloc (.cells (rlL (k : Int) ⟨nm, ids, fn⟩ na).toArray 58)) (fun j hj => ⟨(hO2 j hj).1, by have := (hO2 j hj).2; simp; omega⟩) (by simp; omega)
            (HJ.out _ _ _ _ HJx2.out ((Keeps.refl _ _).alloc _)) (by omega) (hnums.keep ((Keeps.refl (fun _ => True) _).alloc _) fun _ _ => trivial)
          have HRd := Lib.hid hRd
          clear hRd
          have i0 : (0 : Int) ≤ (n : Int) := by omega
          have i1 : (n : Int) < (rs.length : Int) := by omega
          unfold encRe at hy
          simp only [rlV, rlL, numsV] at hy HRd c2
          have HNA := Lib.hid hnums
          clear hnums
          generalize (na.map fun b => (⟨b, 0, none⟩ : Addr)) = an at hy HRd c2
          generalize ids.length = idn at hy HRd c2
          gi_wp2
          refine ⟨rfl, HRd.out.mono ?_⟩
          rintro e W3 ⟨hk3, O', hg3, hout⟩
          have hO2n : ∀ j, j < W2.heap.size → ¬ O j → ¬ O2 j := fun j hj h h2 => by
            rcases hO3 j h2 with h3 | h3
            · exact h h3
            · omega
          have hz3 := hk3.size
          rw [World.size_alloc] at hz3
          have hK3 : Keeps (fun j => W.heap.size ≤ j ∧ ¬ O j) W2 W3 :=
            (HK3.out.alloc _).transIn hk3 fun j hj h => .inr (.inr ⟨h.1, hO2n j hj h.2⟩)
          have HK4 := Lib.hid hK3
          have hO4 : ∀ j, O' j → W.heap.size ≤ j ∧ j < W3.heap.size := fun j hj => by
            refine ⟨?_, (hg3 j hj).1⟩
            rcases (hg3 j hj).2 with h | h
            · exact (hO2 j h).1
            · simp at h; omega
          have hO5 : ∀ j, O' j → O j ∨ W2.heap.size ≤ j := fun j hj => by
            rcases (hg3 j hj).2 with h | h
            · exact hO3 j h
            · simp at h; exact .inr (by omega)
          clear hk3 hg3 hK3 hO2n
          have HX4 : Hid ((xs ++ [⟨(k : Int), ⟨nm, ids, fn⟩, na⟩] : List Re).map Re.rk = Ru.part k ++ ((Ru.of k).take (n + 1)).map (⟨(k : Int), ·⟩)) := Lib.hid (by
            rw [List.map_append, HX.out, HT.out, List.map_append, List.append_assoc]
            rfl)
          rcases hout with ⟨rfl, hj⟩ | ⟨rfl, hj⟩
          · have HJ4 := Lib.hid hj
            clear hj
            gi_wp2
            go_roundw
            case rel => exact ⟨n + 1, O', _, by omega, by go_num, HX4, by simp; omega, hO4, hO5, HJ4, HK4⟩
            case measure => simp [intOf]; omega
          · have HJ4 := Lib.hid hj
            clear hj
            gi_wp2
            simp only [Exit.noGoto_normal]
            go_end0
            exact ⟨⟨_, rfl⟩, by omega, O', hO4, .inr ⟨_, Ru.part_pre (by omega) _ HX4.out, HJ4.out⟩⟩
        · obtain rfl : n = rs.length := by omega
          have i1 : ¬ (rs.length : Int) < (rs.length : Int) := by omega
          gi_wp2
          go_roundw
          case rel =>
            refine ⟨k + 1, O2, xs, by omega, by go_num, Lib.hid ?_, hO2, ?_, HJx2, Lib.hid (HK2.out.transIn HK3.out fun j hj h => ⟨by omega, by rw [h]; exact hbO⟩)⟩
            · rw [HX.out, HLN.out, List.take_length]
              rfl
            · intro h
              rcases hO3 _ h with h3 | h3
              · exact hbO h3
              · omega
          case measure => simp [intOf]; omega
    · obtain rfl : k = 5 := by omega
      have k1 : ¬ ((5 : Nat) : Int) < 5 := by omega
      gi_wp2
      go_end0
      exact ⟨⟨_, rfl⟩, by have := HK.out.size; omega, O, hO, .inl ⟨pre, HP.out.trans Ru.part_tab, HJs.out⟩⟩
end Go.Proofs.YtokcbcjonbjkgaaGreatDoor
