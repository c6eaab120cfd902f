/- The walk of SetsAll: what any texts are as a set, and what any sets have together, in common, without one another, is the reference's. -/
import Derived.Test.YtekdmnecjgpokaaStRows
import Derived.Test.YtekdmnecjgpokaaSetsCountWalk
import Derived.Test.YtekdmnecjgpokaaStRefBoth
import Derived.Test.YtekdmnecjgpokaaLsTexts
import Derived.Deep.RegionHeld3
import Derived.StillTailTactics
namespace Go.Proofs.Ytekdmnecjgpokaa
open Go.RowKit Go.Shelf
attribute [local go_sem] Oper.semAt_some
set_option linter.unusedVariables false
set_option linter.unusedSimpArgs false

theorem OfRow.lt {w W : World} {u : Value} {L : List (List St.Bs)} (h : OfRow w u L W) : ∀ g, u.ownBlock = some g → g < W.heap.size := by
  obtain ⟨cs, h1, -, -⟩ := h
  exact fun g hg => (h1.lt g hg).2
theorem OfRow.below {w W : World} {u : Value} {L : List (List St.Bs)} (h : OfRow w u L W) : Below w.heap.size w W := h.choose_spec.2.1

theorem ofs_vs (W : World) (a : Option Addr) (c : Nat) (ws A : List St.Bs) (h : Wds W a c ws) (hl : ws.length ≤ 1000) (hs : ∀ s ∈ ws, OkW s) (hA : St.ofS ws = A) :
    Calls Try.prog 11 #[.slice a ws.length c] W (VOut W A) := by
  subst hA
  refine (callsIn_wide.1 (of_any a c ws W h (by omega) hs)).mono ?_
  rintro e W' ⟨u, rfl, hr⟩
  exact hr.vs fun s hs' => hs s (St.mem_of.1 hs')
/-- what SOf hands back, apart from a row that there was. -/
def SoOut (W : World) (u0 : Value) (A : List St.Bs) (e : Ending) (W' : World) : Prop := ∃ a c, e = .returned (.slice a A.length c) ∧ VS W' a c A ∧ Apart u0 a W' ∧ Below W.heap.size W W'
theorem sof_vs (W : World) (a : Option Addr) (c : Nat) (ws A : List St.Bs) (u0 : Value) (h : Wds W a c ws) (hl : ws.length ≤ 1000) (hs : ∀ s ∈ ws, OkW s) (hA : St.ofS ws = A) (hu : ∀ g, u0.ownBlock = some g → g < W.heap.size) :
    Calls Try.prog 9 #[.slice a ws.length c] W (SoOut W u0 A) := by
  subst hA
  refine (sof_any a c ws W h hl hs).mono ?_
  rintro e W' ⟨u, rfl, hr⟩
  obtain ⟨a2, c2, he, hv, hb⟩ := hr.vs fun s hs' => hs s (St.mem_of.1 hs')
  injection he with he
  exact ⟨a2, c2, by rw [he], hv, hr.apart u0 hu he, hb⟩
theorem shas_vs (W : World) (a : Option Addr) (c : Nat) (A : List St.Bs) (s : St.Bs) (p : Bool) (h : VS W a c A) (hp : Mk.hasB A s = p) :
    Calls Try.prog 13 #[.slice a A.length c, .string ⟨s.toArray⟩] W fun e w' => e = .returned (.bool p) ∧ W = w' := by
  subst hp
  exact shas_any a c A s W h.1
theorem both_rows (W : World) (a : Option Addr) (c n : Nat) (L : List (List St.Bs)) (X : List St.Bs) (hW : Wss W a c L) (hS : SetsIn L) (hL : L.length ≤ 1000) (hn : L.length = n) (hX : St.bothS L = X) :
    Calls Try.prog 14 #[.slice a n c] W (VOut W X) := by
  subst hn hX
  refine (both_any L a c W hW hS hL).mono ?_
  rintro e W' ⟨u, rfl, hr⟩
  exact hr.vs (both_in hS).2.2
theorem sboth_rows (W : World) (a : Option Addr) (c n : Nat) (L : List (List St.Bs)) (X : List St.Bs) (hW : Wss W a c L) (hS : SetsIn L) (hL : L.length ≤ 1000) (h0 : (L.getD 0 []).length ≤ 1000) (hn : L.length = n) (hX : St.bothS L = X) :
    Calls Try.prog 15 #[.slice a n c] W (VOut W X) := by
  subst hn hX
  refine (sboth_any a c L W hW hL h0).mono ?_
  rintro e W' ⟨u, rfl, hr⟩
  exact hr.vs (both_in hS).2.2
theorem union_rows (W : World) (a : Option Addr) (c n : Nat) (L : List (List St.Bs)) (X : List St.Bs) (hW : Wss W a c L) (hS : SetsIn L) (hL : L.length ≤ 1000) (hn : L.length = n) (hX : St.uniS L = X) :
    Calls Try.prog 16 #[.slice a n c] W (VOut W X) := by
  subst hn hX
  refine (Union_any L a c W hW hS hL).mono ?_
  rintro e W' ⟨u, rfl, hr⟩
  exact hr.vs hS.uni.2.2
theorem sunion_rows (W : World) (a : Option Addr) (c n : Nat) (L : List (List St.Bs)) (X : List St.Bs) (hW : Wss W a c L) (hS : SetsIn L) (hL : L.length ≤ 1000) (hf : L.flatten.length ≤ 1000) (hn : L.length = n) (hX : St.uniS L = X) :
    Calls Try.prog 17 #[.slice a n c] W (VOut W X) := by
  subst hn hX
  refine (sunion_any a c L W hW hL hf hS.2.1).mono ?_
  rintro e W' ⟨u, rfl, hr⟩
  exact hr.vs hS.uni.2.2
theorem minus_rows (W : World) (a0 : Option Addr) (c0 : Nat) (A : List St.Bs) (a : Option Addr) (c n : Nat) (L : List (List St.Bs)) (X : List St.Bs) (hA : VS W a0 c0 A) (sA : SetP A) (hW : Wss W a c L) (hS : SetsIn L) (hL : L.length ≤ 1000) (hn : L.length = n) (hX : St.minS A L = X) :
    Calls Try.prog 18 #[.slice a0 A.length c0, .slice a n c] W (VOut W X) := by
  subst hn hX
  refine (minus_any a0 c0 A L a c W hA.1 sA.1 sA.2.1 (by have := sA.2.2; omega) hW hS hL).mono ?_
  rintro e W' ⟨u, rfl, hr⟩
  exact hr.vs (min_ok sA)
theorem sminus_rows (W : World) (a0 : Option Addr) (c0 : Nat) (A : List St.Bs) (a : Option Addr) (c n : Nat) (L : List (List St.Bs)) (X : List St.Bs) (hA : VS W a0 c0 A) (sA : SetP A) (hW : Wss W a c L) (hL : L.length ≤ 1000) (hn : L.length = n) (hX : St.minS A L = X) :
    Calls Try.prog 19 #[.slice a0 A.length c0, .slice a n c] W (VOut W X) := by
  subst hn hX
  refine (sminus_any a0 c0 A a c L W hA.1 hW sA.2.2 hL).mono ?_
  rintro e W' ⟨u, rfl, hr⟩
  exact hr.vs (min_ok sA)

/-- the sets of rows of no great size. -/
theorem sets_of {L : List (List St.Bs)} (hL : L.length ≤ 8) (hg : ∀ j, j < L.length → St.greatB (L.getD j []) = false) :
    SetsIn (L.map St.ofS) ∧ (∀ j, j < L.length → SetP ((L.map St.ofS).getD j [])) ∧ (L.map St.ofS).flatten.length ≤ 480 := by
  have each : ∀ l ∈ L, SetP (St.ofS l) ∧ (St.ofS l).length ≤ 60 := fun l hl => by
    obtain ⟨j, hj, rfl⟩ := List.getElem_of_mem hl
    have h1 := hg j hj
    rw [getD_eq hj] at h1
    obtain ⟨h2, h3⟩ := St.great_no h1
    have h4 := St.of_len L[j]
    refine ⟨⟨St.of_up _, fun s hs => ?_, by omega⟩, by omega⟩
    have := h3 s (St.mem_of.1 hs)
    show s.length ≤ 1000000
    omega
  have hfl : (L.map St.ofS).flatten.length ≤ 60 * L.length := by
    clear hg hL
    induction L with
    | nil => simp
    | cons l L ih =>
      have h1 := (each l (List.mem_cons_self ..)).2
      have h2 := ih fun m hm => each m (List.mem_cons_of_mem _ hm)
      rw [List.map_cons, List.flatten_cons, List.length_append, List.length_cons]
      omega
  refine ⟨⟨fun l hl => ?_, fun l hl => ?_, by omega⟩, fun j hj => ?_, by omega⟩
  · obtain ⟨m, hm, rfl⟩ := List.mem_map.1 hl
    exact St.of_up m
  · obtain ⟨m, hm, rfl⟩ := List.mem_map.1 hl
    exact (each m hm).1.2.1
  · rw [getD_eq (by simpa using hj), List.getElem_map]
    exact (each _ (List.getElem_mem hj)).1
theorem map_take {L : List (List St.Bs)} {q : Nat} (h : q < L.length) : (L.take (q + 1)).map St.ofS = (L.take q).map St.ofS ++ [St.ofS (L.getD q [])] := by
  rw [take_succ_getD (d := []) h]
  simp

section
variable {P : Program} {ops : Array Oper} {Q : Exit → Act → World → Prop} {md : Region.Mode} {S : World → Prop} {f : Nat}
/-- number i, which its guard leaves out, is passed first. -/
theorem wpAnyL_pass {i : Nat} {oi : Oper} (d : Option Tmp) {fuel : Nat} {listed : Array Bool} {a : Act} {w : World} (hi : ops[i]? = some oi) (hd : oi.dst = d) (hw : waits md ops f i = true)
    (hs : Region.noSelect ops = true) (hf : Region.free md ops listed i = true) (hr : (Region.ready md ops listed).contains i = true)
    (hQ : ∀ c a w, Q (.panic c) (a.put oi.dst undef) w → Q (.panic c) a w) (hg : Region.wanted oi (yielded ops a.tmps) = false) (hS : S w)
    (h : wpAnyL P md ops Q S f fuel (listed.setIfInBounds i true) (a.put d undef) w) : wpAnyL P md ops Q S f (fuel + 1) listed a w :=
  wpAnyL_first hi hw (Region.noSelect_spec hs) hQ fuel listed a w (Region.free_spec hi hf) (by simpa using hr) (.inr ⟨hg, rfl⟩) hS (hd ▸ h)
end

set_option maxRecDepth 100000 in
set_option maxHeartbeats 16000000 in
theorem setsAll_walk (a0 : Option Addr) (cap0 : Nat) (L : List (List St.Bs)) (s : St.Bs) (w : World) (hW : Wss w a0 cap0 L) (ls : s.length ≤ 9223372036854775807) :
    Calls Try.prog 3 #[.slice a0 L.length cap0, .string ⟨s.toArray⟩] w fun e w' => e = .returned (.bool true) ∧ Below w.heap.size w w' := by
  have HAW := Lib.hid (fun W => awake_any W)
  have hLb : (L.length : Int) ≤ 9223372036854775807 := by have := hW.1; have := hW.2.1; omega
  have HW := Lib.hid hW
  clear hW
  by_cases h8 : L.length ≤ 8
  rotate_left
  · have d0 : (8 : Int) < (L.length : Int) := by omega
    clear h8
    go_enter Try.func3, Try.ntmps3
    go_wp2_with fail
    refine (HAW.out _).mono ?_
    rintro e w1 ⟨rfl, hb⟩
    have HB := Lib.hid hb
    clear hb
    go_wp2
    go_ret
    exact ⟨rfl, HB.out⟩
  by_cases hls : s.length ≤ 200
  rotate_left
  · have d0 : ¬ (8 : Int) < (L.length : Int) := by omega
    have d1 : (200 : Int) < (s.length : Int) := by omega
    have d2 : (s.length : Int) ≤ 9223372036854775807 := by omega
    clear h8 hls
    go_enter Try.func3, Try.ntmps3
    go_wp2_with fail
    refine (HAW.out _).mono ?_
    rintro e w1 ⟨rfl, hb⟩
    have HB := Lib.hid hb
    clear hb
    go_wp2
    go_ret
    exact ⟨rfl, HB.out⟩
  obtain ⟨m, hm⟩ : ∃ m, L.length = m := ⟨_, rfl⟩
  have HN := Lib.hid hm
  rw [hm] at h8 hLb ⊢
  clear hm
  have d0 : ¬ (8 : Int) < (m : Int) := by omega
  have dB0 : decide ((8 : Int) < (m : Int)) = false := decide_eq_false d0
  have d1 : ¬ (200 : Int) < (s.length : Int) := by omega
  have dB1 : decide ((200 : Int) < (s.length : Int)) = false := decide_eq_false d1
  have d2 : (s.length : Int) ≤ 200 := by omega
  have d3 : (m : Int) ≤ 8 := by omega
  go_enter Try.func3, Try.ntmps3
  go_wp2
  go_loopw [5, 6] (fun u i wr => ∃ q : Nat, q ≤ m ∧ i = .int .i64 q ∧ Hid (OfRow w u ((L.take q).map St.ofS) wr) ∧ Hid (∀ j, j < q → St.greatB (L.getD j []) = false)) (fun _ i _ => m - (intOf i).toNat)
  case atStart => exact ⟨0, Nat.zero_le _, rfl, Lib.hid (OfRow.none w w (Below.refl _ _)), Lib.hid fun j h => by omega⟩
  case round =>
    obtain ⟨q, hq, rfl, HO, HG⟩ := hrel
    have q0 : (0 : Int) ≤ (q : Int) := by omega
    by_cases hlq : q < m
    · obtain ⟨b, off, rfl, hb, hc⟩ := HW.out.get (by rw [HN.out]; omega)
      obtain ⟨a1, c1, z1, z2, -⟩ := hc q (by rw [HN.out]; omega)
      have y0 := (HO.out.below.cell (p := ⟨b, off + q, none⟩) hb).trans z1
      have q1 : (q : Int) < (m : Int) := by omega
      have HZ2 := Lib.hid (z2.later HO.out.below)
      have HZ0 := Lib.hid z2
      have HY1 := Lib.hid z1
      have HGr := Lib.hid (great_any a1 c1 (L.getD q []) wr HZ2.out)
      have HMT := Lib.hid (map_take (L := L) (q := q) (by rw [HN.out]; exact hlq))
      obtain ⟨l, hl⟩ : ∃ l, L.getD q [] = l := ⟨_, rfl⟩
      rw [hl] at y0 HZ2 HGr HMT HZ0 HY1
      have HLQ := Lib.hid hl
      clear hc z1 z2 hl
      cases hg : St.greatB l with
      | true =>
        rw [hg] at HGr
        clear hg
        go_wp2_with fail
        refine HGr.out.mono ?_
        rintro e w1 ⟨rfl, rfl⟩
        go_wp2_with fail
        refine (HAW.out _).mono ?_
        rintro e w1 ⟨rfl, hb⟩
        have HB := Lib.hid (HO.out.below.trans (hb.mono HO.out.below.size))
        clear hb
        go_wp2
        go_ret
        exact ⟨rfl, HB.out⟩
      | false =>
        obtain ⟨hll, hlt⟩ := St.great_no hg
        have HG2 : Hid (∀ j, j < q + 1 → St.greatB (L.getD j []) = false) := Lib.hid fun j hj => by
          rcases Nat.lt_or_ge j q with h | h
          · exact HG.out j h
          · obtain rfl : j = q := by omega
            rw [HLQ.out]; exact hg
        rw [hg] at HGr
        have hok : ∀ t ∈ l, OkW t := fun t ht => by have := hlt t ht; show t.length ≤ 1000000; omega
        obtain ⟨A, hA⟩ : ∃ A, St.ofS l = A := ⟨_, rfl⟩
        have sA : SetP A := by
          rw [← hA]
          have h4 := St.of_len l
          exact ⟨St.of_up _, fun t ht => hok t (St.mem_of.1 ht), by omega⟩
        have HS1 := Lib.hid (sof_vs wr a1 c1 l A u5 HZ2.out (by omega) hok hA HO.out.lt)
        have HS2 := Lib.hid (fun W (hb : Below w.heap.size w W) => ofs_vs W a1 c1 l A (HZ0.out.later hb) (by omega) hok hA)
        rw [hA] at HMT
        have HSA := Lib.hid sA
        obtain ⟨p, hp⟩ : ∃ p, Mk.hasB A s = p := ⟨_, rfl⟩
        have HP := Lib.hid hp
        have hbr : b < wr.heap.size := Nat.lt_of_lt_of_le hb HO.out.below.size
        have nl : (l.length : Int) ≤ 60 := by omega
        have HY0 := Lib.hid y0
        obtain ⟨P, hP⟩ : ∃ P, (L.take q).map St.ofS = P := ⟨_, rfl⟩
        have hPl : P.length = q := by rw [← hP, List.length_map, List.length_take, HN.out]; omega
        rw [hP] at HO HMT
        have HPl := Lib.hid hPl
        clear hg hlt hok hA sA hp hP hPl
        go_wp2_with fail
        refine HGr.out.mono ?_
        rintro e w1 ⟨rfl, rfl⟩
        go_wp2_with fail
        refine HS1.out.mono ?_
        rintro e w2 ⟨a2, c2, rfl, hv, hap, hb2⟩
        have HV2 := Lib.hid hv
        have HAp := Lib.hid hap
        have HO2 := Lib.hid (HO.out.later hb2)
        have HB2 := Lib.hid hb2
        clear hv hap hb2
        have hal : Below w2.heap.size w2 (w2.alloc (.cells #[.slice a2 A.length c2] 25)) := (Below.refl _ _).alloc (Nat.le_refl _) _
        have HO3 := Lib.hid (HO2.out.later hal)
        have HV3 := Lib.hid (HV2.out.later hal)
        have HAp3 : Hid (Apart u5 a2 (w2.alloc (.cells #[.slice a2 A.length c2] 25))) := Lib.hid fun p hp => ⟨Nat.lt_of_lt_of_le (HAp.out p hp).1 hal.size, (HAp.out p hp).2⟩
        have HCe : Hid ((w2.alloc (.cells #[.slice a2 A.length c2] 25)).cell? ⟨w2.heap.size, 0, none⟩ = some (.slice a2 A.length c2)) := Lib.hid (Boxed.new w2 25 (.slice a2 A.length c2)).cell
        clear hal
        go_wp2_with (at_builtin; refine wpList_append_of rfl (.tmp 28) (.tmp 34) rfl rfl HO3.out rfl HV3.out HAp3.out HCe.out (by have := HPl.out; omega) ?_)
        intro v4 w4 ho4
        obtain ⟨ao, co, rfl, hwss, hnn⟩ := ho4.wss
        obtain ⟨g, rfl⟩ := hnn (by simp)
        have hl4 : (P ++ [A]).length = q + 1 := by rw [List.length_append, HPl.out]; rfl
        obtain ⟨g', o', he, hg4, hcc⟩ := hwss.get (by omega)
        cases he
        obtain ⟨a3, c3, x1, x2, x3⟩ := hcc q (by omega)
        have eq1 : (P ++ [A]).getD q [] = A := by
          have := HPl.out
          simp [List.getD, List.getElem?_append_right (show P.length ≤ q by omega), this]
        rw [eq1] at x1 x2
        rw [Nat.zero_add] at x1
        have HV4 : Hid (VS w4 a3 c3 A) := Lib.hid ⟨x2, x3⟩
        rw [hl4] at ho4 ⊢
        have y4 := (ho4.below.cell (p := ⟨b, off + q, none⟩) hb).trans HY1.out
        have HO4 := Lib.hid ho4
        have hb4 : b < w4.heap.size := Nat.lt_of_lt_of_le hb ho4.below.size
        have HB4 := Lib.hid ho4.below
        clear ho4 hwss hnn hcc x2 x3 eq1 hl4 HY0 HO3 HV3 HAp3 HCe HO2 HV2 HAp HB2 HS1 HZ2 HZ0 HO y0
        have hq5 : (q : Int) < (q : Int) + 1 := by omega
        have hq6 : q < q + 1 := by omega
        have HX1 := Lib.hid x1
        have hbd : Below w4.heap.size w4 w4.drew := (Below.refl _ _).drew
        have HBd := Lib.hid (HB4.out.trans (hbd.mono HB4.out.size))
        have HVd := Lib.hid (HV4.out.later hbd)
        clear hbd
        go_wp2
        cases p
        all_goals
          go_region_held3 (fun W' => W'.cell? ⟨b, off + q, none⟩ = some (.slice a1 l.length c1) ∧ W'.cell? ⟨g, q, none⟩ = some (.slice a3 A.length c3))
            (first
              | (with_reducible exact ⟨y6, x6⟩)
              | (with_reducible exact ⟨y5, x5⟩)
              | go_keep)
            (first
              | (go_at_call 11; ((with_reducible refine (HS2.out _ HBd.out).mono ?_); rintro e w5 ⟨a5, c5, rfl, hv5, hb5⟩; have HV5 := Lib.hid hv5; have HV45 := Lib.hid (HVd.out.later hb5); have HB5 := Lib.hid (HBd.out.trans (hb5.mono HBd.out.size)); have HD5 : Hid (Below w4.heap.size w4 w5) := Lib.hid (((Below.refl _ w4).drew).trans hb5); have y5 := (HB5.out.cell (p := ⟨b, off + q, none⟩) hb).trans HY1.out; have x5 := (HD5.out.cell (p := ⟨g, q, none⟩) hg4).trans HX1.out; clear hv5 hb5))
              | (go_at_call 10; ((refine (texts_any _ _ _ _ _ _ w5 HV5.out.1 HV45.out.1).mono ?_); rintro e w6 ⟨rfl, hb6⟩; simp only [decide_true]; have HV46 := Lib.hid (HV45.out.later hb6); have HB6 := Lib.hid (HB5.out.trans (hb6.mono HB5.out.size)); have HD6 : Hid (Below w4.heap.size w4 w6) := Lib.hid (HD5.out.trans (hb6.mono HD5.out.size)); have y6 := (HB6.out.cell (p := ⟨b, off + q, none⟩) hb).trans HY1.out; have x6 := (HD6.out.cell (p := ⟨g, q, none⟩) hg4).trans HX1.out; clear hb6))
              | (go_at_call 12; ((refine (has_vs _ _ _ _ _ _ HV46.out HSA.out HP.out).mono ?_); rintro e w7 ⟨rfl, rfl⟩))
              | (go_at_call 13; ((refine (shas_vs _ _ _ _ _ _ HV46.out HP.out).mono ?_); rintro e w7 ⟨rfl, rfl⟩)))
          clear y5 x5 y6 x6
          go_wp2
          go_roundw
          case rel => exact ⟨q + 1, by omega, by go_num, by rw [HMT.out]; exact Lib.hid (HO4.out.later HD6.out), HG2⟩
          case measure => simp [intOf]; omega
    · obtain rfl : q = m := by omega
      have HTk : Hid (L.take q = L) := Lib.hid (List.take_of_length_le (by rw [HN.out]; exact Nat.le_refl _))
      rw [HTk.out] at HO
      obtain ⟨hSI, hSP, hfl⟩ := sets_of (L := L) (by rw [HN.out]; exact h8) (fun j hj => HG.out j (by rw [← HN.out]; exact hj))
      have hLl : (L.map St.ofS).length = q := by rw [List.length_map]; exact HN.out
      have hP0 : 0 < q → SetP ((L.map St.ofS).getD 0 []) := fun h => hSP 0 (by rw [HN.out]; exact h)
      obtain ⟨M, hM⟩ : ∃ M, L.map St.ofS = M := ⟨_, rfl⟩
      rw [hM] at HO hSI hfl hLl hP0
      obtain ⟨ao, co, hu, hwss, hnn⟩ := HO.out.wss
      rw [hLl] at hu
      subst hu
      have HBr := Lib.hid HO.out.below
      have HWs := Lib.hid hwss
      have h00 : (M.getD 0 []).length ≤ 1000 := by
        rcases Nat.eq_zero_or_pos q with h | h
        · have : M = [] := List.eq_nil_of_length_eq_zero (by omega)
          rw [this]; simp
        · exact (hP0 h).2.2
      obtain ⟨X, hX⟩ : ∃ X, St.bothS M = X := ⟨_, rfl⟩
      obtain ⟨U, hU⟩ : ∃ U, St.uniS M = U := ⟨_, rfl⟩
      have HR1 := Lib.hid (fun W (hb : Below wr.heap.size wr W) => both_rows W ao co q M X (HWs.out.later hb) hSI (by omega) hLl hX)
      have HR2 := Lib.hid (fun W (hb : Below wr.heap.size wr W) => sboth_rows W ao co q M X (HWs.out.later hb) hSI (by omega) h00 hLl hX)
      have HR3 := Lib.hid (fun W (hb : Below wr.heap.size wr W) => union_rows W ao co q M U (HWs.out.later hb) hSI (by omega) hLl hU)
      have HR4 := Lib.hid (fun W (hb : Below wr.heap.size wr W) => sunion_rows W ao co q M U (HWs.out.later hb) hSI (by omega) (by omega) hLl hU)
      have HSI := Lib.hid hSI
      have HLl := Lib.hid hLl
      have HP0 := Lib.hid hP0
      have HNN := Lib.hid hnn
      clear hSI hSP hfl hLl hP0 hM hwss hnn h00 hX hU HO HG HTk
      go_wp2_with fail
      refine (HR1.out wr (Below.refl _ _)).mono ?_
      rintro e w2 ⟨b1, c1, rfl, hv, hb⟩
      have HV1 := Lib.hid hv
      have HD := Lib.hid hb
      clear hv hb
      go_wp2_with fail
      refine (HR2.out w2 HD.out).mono ?_
      rintro e w3 ⟨b2, c2, rfl, hv, hb⟩
      replace HV1 := Lib.hid (HV1.out.later hb)
      have HV2 := Lib.hid hv
      replace HD := Lib.hid (HD.out.trans (hb.mono HD.out.size))
      clear hv hb
      go_wp2_with fail
      refine (texts_any _ _ _ _ _ _ w3 HV1.out.1 HV2.out.1).mono ?_
      rintro e w4 ⟨rfl, hb⟩
      replace HD := Lib.hid (HD.out.trans (hb.mono HD.out.size))
      clear hb HV1 HV2
      simp only [decide_true]
      go_wp2_with fail
      refine (HR3.out w4 HD.out).mono ?_
      rintro e w5 ⟨b3, c3, rfl, hv, hb⟩
      have HV1 := Lib.hid hv
      replace HD := Lib.hid (HD.out.trans (hb.mono HD.out.size))
      clear hv hb
      go_wp2_with fail
      refine (HR4.out w5 HD.out).mono ?_
      rintro e w6 ⟨b4, c4, rfl, hv, hb⟩
      replace HV1 := Lib.hid (HV1.out.later hb)
      have HV2 := Lib.hid hv
      replace HD := Lib.hid (HD.out.trans (hb.mono HD.out.size))
      clear hv hb
      go_wp2_with fail
      refine (texts_any _ _ _ _ _ _ w6 HV1.out.1 HV2.out.1).mono ?_
      rintro e w7 ⟨rfl, hb⟩
      replace HD := Lib.hid (HD.out.trans (hb.mono HD.out.size))
      clear hb HV1 HV2 HR1 HR2 HR3 HR4
      simp only [decide_true]
      rcases Nat.eq_zero_or_pos q with hq0 | hq0
      · subst hq0
        have HDd := Lib.hid (HD.out.trans ((Below.refl w7.heap.size w7).drew.mono HD.out.size))
        go_wp2
        refine wp_region_L (S := fun _ => True) (f := 21) (by kernel_rfl) ?_
        refine wpAnyL_take (i := 0) (some 76) (v := .slice ao 0 co) rfl rfl (by kernel_rfl) (by kernel_rfl) (by kernel_rfl) (by kernel_rfl) (fun _ _ _ h => h) (by rfl) (fun W hS => ?_) trivial ?_
        · go_simp
        try simp only [Act.put, List.setIfInBounds_toArray, List.set_cons_zero, List.set_cons_succ]
        refine wpAnyL_take (i := 1) (some 77) (v := .int .i64 0) rfl rfl (by kernel_rfl) (by kernel_rfl) (by kernel_rfl) (by kernel_rfl) (fun _ _ _ h => h) (by rfl) (fun W hS => ?_) trivial ?_
        · go_simp
        try simp only [Act.put, List.setIfInBounds_toArray, List.set_cons_zero, List.set_cons_succ]
        refine wpAnyL_take (i := 2) (some 78) (v := .bool true) rfl rfl (by kernel_rfl) (by kernel_rfl) (by kernel_rfl) (by kernel_rfl) (fun _ _ _ h => h) (by rfl) (fun W hS => ?_) trivial ?_
        · go_simp
        try simp only [Act.put, List.setIfInBounds_toArray, List.set_cons_zero, List.set_cons_succ]
        refine wpAnyL_take (i := 3) (some 79) (v := .bool true) rfl rfl (by kernel_rfl) (by kernel_rfl) (by kernel_rfl) (by kernel_rfl) (fun _ _ _ h => h) (by rfl) (fun W hS => ?_) trivial ?_
        · go_simp
        try simp only [Act.put, List.setIfInBounds_toArray, List.set_cons_zero, List.set_cons_succ]
        refine wpAnyL_pass (i := 4) (some 80) rfl rfl (by kernel_rfl) (by kernel_rfl) (by kernel_rfl) (by kernel_rfl) (fun _ _ _ h => h) (by rfl) trivial ?_
        try simp only [Act.put, List.setIfInBounds_toArray, List.set_cons_zero, List.set_cons_succ]
        refine wpAnyL_pass (i := 5) (some 81) rfl rfl (by kernel_rfl) (by kernel_rfl) (by kernel_rfl) (by kernel_rfl) (fun _ _ _ h => h) (by rfl) trivial ?_
        try simp only [Act.put, List.setIfInBounds_toArray, List.set_cons_zero, List.set_cons_succ]
        refine wpAnyL_pass (i := 6) (some 82) rfl rfl (by kernel_rfl) (by kernel_rfl) (by kernel_rfl) (by kernel_rfl) (fun _ _ _ h => h) (by rfl) trivial ?_
        try simp only [Act.put, List.setIfInBounds_toArray, List.set_cons_zero, List.set_cons_succ]
        refine wpAnyL_pass (i := 7) (some 83) rfl rfl (by kernel_rfl) (by kernel_rfl) (by kernel_rfl) (by kernel_rfl) (fun _ _ _ h => h) (by rfl) trivial ?_
        try simp only [Act.put, List.setIfInBounds_toArray, List.set_cons_zero, List.set_cons_succ]
        refine wpAnyL_pass (i := 8) (some 84) rfl rfl (by kernel_rfl) (by kernel_rfl) (by kernel_rfl) (by kernel_rfl) (fun _ _ _ h => h) (by rfl) trivial ?_
        try simp only [Act.put, List.setIfInBounds_toArray, List.set_cons_zero, List.set_cons_succ]
        refine wpAnyL_pass (i := 9) (some 85) rfl rfl (by kernel_rfl) (by kernel_rfl) (by kernel_rfl) (by kernel_rfl) (fun _ _ _ h => h) (by rfl) trivial ?_
        try simp only [Act.put, List.setIfInBounds_toArray, List.set_cons_zero, List.set_cons_succ]
        refine wpAnyL_pass (i := 10) (some 86) rfl rfl (by kernel_rfl) (by kernel_rfl) (by kernel_rfl) (by kernel_rfl) (fun _ _ _ h => h) (by rfl) trivial ?_
        try simp only [Act.put, List.setIfInBounds_toArray, List.set_cons_zero, List.set_cons_succ]
        refine wpAnyL_pass (i := 11) (some 87) rfl rfl (by kernel_rfl) (by kernel_rfl) (by kernel_rfl) (by kernel_rfl) (fun _ _ _ h => h) (by rfl) trivial ?_
        try simp only [Act.put, List.setIfInBounds_toArray, List.set_cons_zero, List.set_cons_succ]
        refine wpAnyL_pass (i := 12) (some 88) rfl rfl (by kernel_rfl) (by kernel_rfl) (by kernel_rfl) (by kernel_rfl) (fun _ _ _ h => h) (by rfl) trivial ?_
        try simp only [Act.put, List.setIfInBounds_toArray, List.set_cons_zero, List.set_cons_succ]
        refine wpAnyL_pass (i := 13) (some 89) rfl rfl (by kernel_rfl) (by kernel_rfl) (by kernel_rfl) (by kernel_rfl) (fun _ _ _ h => h) (by rfl) trivial ?_
        try simp only [Act.put, List.setIfInBounds_toArray, List.set_cons_zero, List.set_cons_succ]
        refine wpAnyL_pass (i := 14) (some 90) rfl rfl (by kernel_rfl) (by kernel_rfl) (by kernel_rfl) (by kernel_rfl) (fun _ _ _ h => h) (by rfl) trivial ?_
        try simp only [Act.put, List.setIfInBounds_toArray, List.set_cons_zero, List.set_cons_succ]
        refine wpAnyL_pass (i := 15) (some 91) rfl rfl (by kernel_rfl) (by kernel_rfl) (by kernel_rfl) (by kernel_rfl) (fun _ _ _ h => h) (by rfl) trivial ?_
        try simp only [Act.put, List.setIfInBounds_toArray, List.set_cons_zero, List.set_cons_succ]
        refine wpAnyL_pass (i := 16) (some 92) rfl rfl (by kernel_rfl) (by kernel_rfl) (by kernel_rfl) (by kernel_rfl) (fun _ _ _ h => h) (by rfl) trivial ?_
        try simp only [Act.put, List.setIfInBounds_toArray, List.set_cons_zero, List.set_cons_succ]
        refine wpAnyL_take (i := 17) (some 93) (v := .bool true) rfl rfl (by kernel_rfl) (by kernel_rfl) (by kernel_rfl) (by kernel_rfl) (fun _ _ _ h => h) (by rfl) (fun W hS => ?_) trivial ?_
        · go_simp
        try simp only [Act.put, List.setIfInBounds_toArray, List.set_cons_zero, List.set_cons_succ]
        refine wpAnyL_take (i := 18) (some 94) (v := .bool true) rfl rfl (by kernel_rfl) (by kernel_rfl) (by kernel_rfl) (by kernel_rfl) (fun _ _ _ h => h) (by rfl) (fun W hS => ?_) trivial ?_
        · go_simp
        try simp only [Act.put, List.setIfInBounds_toArray, List.set_cons_zero, List.set_cons_succ]
        refine wpAnyL_one (j := 19) (by kernel_rfl) rfl (by rfl) (fun K hK => ?_)
        go_simp
        refine (HAW.out _).mono ?_
        rintro e w11 ⟨rfl, hb⟩
        have HD11 := Lib.hid (HDd.out.trans (hb.mono HDd.out.size))
        clear hb
        refine hK _ _ (fun _ => trivial) ?_
        try simp only [Act.put, List.setIfInBounds_toArray, List.set_cons_zero, List.set_cons_succ]
        refine wpAnyL_take (i := 20) (some 96) (v := .bool true) rfl rfl (by kernel_rfl) (by kernel_rfl) (by kernel_rfl) (by kernel_rfl) (fun _ _ _ h => h) (by rfl) (fun W hS => ?_) trivial ?_
        · go_simp
        try simp only [Act.put, List.setIfInBounds_toArray, List.set_cons_zero, List.set_cons_succ]
        refine wpAnyL_one (j := 21) (by kernel_rfl) rfl (by rfl) (fun K hK => ?_)
        go_simp
        refine hK _ _ (fun h => (h rfl).elim) ?_
        try simp only [Act.put, List.setIfInBounds_toArray, List.set_cons_zero, List.set_cons_succ]
        refine wpAnyL_done (by kernel_rfl) ?_ _
        go_wp2
        go_ret
        exact ⟨rfl, HBr.out.trans (HD11.out.mono HBr.out.size)⟩
      · have hMl := HLl.out
        have hMne : M ≠ [] := fun e => by rw [e] at hMl; simp at hMl; omega
        obtain ⟨g, rfl⟩ := HNN.out hMne
        obtain ⟨g', o', he, hgl, hcc⟩ := HWs.out.get (by omega)
        cases he
        obtain ⟨a3, c3, x1, x2, x3⟩ := hcc 0 (by omega)
        rw [Nat.add_zero] at x1
        obtain ⟨A0, hA0⟩ : ∃ A0, M.getD 0 [] = A0 := ⟨_, rfl⟩
        have sA0 := HP0.out hq0
        rw [hA0] at x1 x2 sA0
        have HV3 : Hid (VS wr a3 c3 A0) := Lib.hid ⟨x2, x3⟩
        have HX0 := Lib.hid x1
        have HSA0 := Lib.hid sA0
        obtain ⟨R, hR⟩ : ∃ R, M.drop 1 = R := ⟨_, rfl⟩
        obtain ⟨Mn, hMn⟩ : ∃ Mn, St.minS A0 R = Mn := ⟨_, rfl⟩
        have hRl : R.length = q - 1 := by rw [← hR, List.length_drop, hMl]
        have HSR := Lib.hid (show SetsIn R by rw [← hR]; exact HSI.out.drop 1)
        have hR1 : R.length ≤ 1000 := by omega
        have hcap := HWs.out.1
        have hcap2 := HWs.out.2.1
        have qI : (0 : Int) < (q : Int) := by omega
        have qI1 : (1 : Int) ≤ (q : Int) := by omega
        have qn : ¬ q = 0 := by omega
        have qB : decide (q = 0) = false := by simpa using qn
        have qB2 : ((q : Int) == 0) = false := beq_eq_false_iff_ne.2 (by omega)
        have cI : (q : Int) ≤ (co : Int) := by omega
        have cI2 : (co : Int) ≤ 9223372036854775807 := by omega
        rcases Classical.em (co = 1) with hc1 | hc1
        · obtain rfl : q = 1 := by omega
          subst hc1
          have hRn : R.length = 0 := by omega
          have HWR : Hid (∀ W, Below wr.heap.size wr W → Wss W (some ⟨g, 0, none⟩) 0 R) := Lib.hid fun W _ => ⟨by omega, by decide, .inl (List.eq_nil_of_length_eq_zero hRn)⟩
          clear hMl hMne x1 x2 x3 hcc hA0 sA0 hR hRl hcap hcap2 HWs HNN HSI HP0 HLl HN
          have HMi := Lib.hid (fun W (hb : Below wr.heap.size wr W) => minus_rows W a3 c3 A0 (some ⟨g, 0, none⟩) 0 0 R Mn (HV3.out.later hb) HSA0.out (HWR.out W hb) HSR.out hR1 hRn hMn)
          have HSm := Lib.hid (fun W (hb : Below wr.heap.size wr W) => sminus_rows W a3 c3 A0 (some ⟨g, 0, none⟩) 0 0 R Mn (HV3.out.later hb) HSA0.out (HWR.out W hb) hR1 hRn hMn)
          have y7 := (HD.out.cell (p := ⟨g, 0, none⟩) hgl).trans HX0.out
          have HDd := Lib.hid (HD.out.trans ((Below.refl w7.heap.size w7).drew.mono HD.out.size))
          clear hR1 hRn hMn
          go_wp2
          go_region_held3 (fun W' => W'.cell? ⟨g, 0, none⟩ = some (.slice a3 A0.length c3))
            (first
              | (with_reducible exact y9)
              | (with_reducible exact y8)
              | (with_reducible exact y10)
              | (with_reducible exact y11)
              | go_keep)
            (first
              | (go_at_call 18; ((with_reducible refine (HMi.out _ HDd.out).mono ?_); rintro e w8 ⟨b5, c5, rfl, hv, hb⟩; have HV5 := Lib.hid hv; have HD8 := Lib.hid (HDd.out.trans (hb.mono HDd.out.size)); have y8 := (HD8.out.cell (p := ⟨g, 0, none⟩) hgl).trans HX0.out; clear hv hb))
              | (go_at_call 19; ((with_reducible refine (HSm.out _ HD8.out).mono ?_); rintro e w9 ⟨b6, c6, rfl, hv, hb⟩; have HV6 := Lib.hid hv; have HV59 := Lib.hid (HV5.out.later hb); have HD9 := Lib.hid (HD8.out.trans (hb.mono HD8.out.size)); have y9 := (HD9.out.cell (p := ⟨g, 0, none⟩) hgl).trans HX0.out; clear hv hb))
              | (go_at_call 10; ((refine (texts_any _ _ _ _ _ _ w9 HV59.out.1 HV6.out.1).mono ?_); rintro e w10 ⟨rfl, hb⟩; simp only [decide_true]; have HD10 := Lib.hid (HD9.out.trans (hb.mono HD9.out.size)); have y10 := (HD10.out.cell (p := ⟨g, 0, none⟩) hgl).trans HX0.out; clear hb))
              | (go_at_call 7; ((refine (HAW.out _).mono ?_); rintro e w11 ⟨rfl, hb⟩; have HD11 := Lib.hid (HD10.out.trans (hb.mono HD10.out.size)); have y11 := (HD11.out.cell (p := ⟨g, 0, none⟩) hgl).trans HX0.out; clear hb)))
          go_wp2
          go_ret
          exact ⟨rfl, HBr.out.trans (HD11.out.mono HBr.out.size)⟩
        · have hRn : R.length = q - 1 := hRl
          have HWR : Hid (∀ W, Below wr.heap.size wr W → Wss W (some ⟨g, 1, none⟩) (co - 1) R) := Lib.hid fun W hb => by
            have := (HWs.out.drop 1 (by omega)).later hb
            rw [hR, Nat.zero_add] at this
            exact this
          have hc2 : (1 : Int) < (co : Int) := by omega
          clear hMl hMne x1 x2 x3 hcc hA0 sA0 hR hRl hcap hcap2 HWs HNN HSI HP0 HLl HN
          have HMi := Lib.hid (fun W (hb : Below wr.heap.size wr W) => minus_rows W a3 c3 A0 (some ⟨g, 1, none⟩) (co - 1) (q - 1) R Mn (HV3.out.later hb) HSA0.out (HWR.out W hb) HSR.out hR1 hRn hMn)
          have HSm := Lib.hid (fun W (hb : Below wr.heap.size wr W) => sminus_rows W a3 c3 A0 (some ⟨g, 1, none⟩) (co - 1) (q - 1) R Mn (HV3.out.later hb) HSA0.out (HWR.out W hb) hR1 hRn hMn)
          have y7 := (HD.out.cell (p := ⟨g, 0, none⟩) hgl).trans HX0.out
          have HDd := Lib.hid (HD.out.trans ((Below.refl w7.heap.size w7).drew.mono HD.out.size))
          clear hR1 hRn hMn
          go_wp2
          go_region_held3 (fun W' => W'.cell? ⟨g, 0, none⟩ = some (.slice a3 A0.length c3))
            (first
              | (with_reducible exact y9)
              | (with_reducible exact y8)
              | (with_reducible exact y10)
              | (with_reducible exact y11)
              | go_keep)
            (first
              | (go_at_call 18; ((with_reducible refine (HMi.out _ HDd.out).mono ?_); rintro e w8 ⟨b5, c5, rfl, hv, hb⟩; have HV5 := Lib.hid hv; have HD8 := Lib.hid (HDd.out.trans (hb.mono HDd.out.size)); have y8 := (HD8.out.cell (p := ⟨g, 0, none⟩) hgl).trans HX0.out; clear hv hb))
              | (go_at_call 19; ((with_reducible refine (HSm.out _ HD8.out).mono ?_); rintro e w9 ⟨b6, c6, rfl, hv, hb⟩; have HV6 := Lib.hid hv; have HV59 := Lib.hid (HV5.out.later hb); have HD9 := Lib.hid (HD8.out.trans (hb.mono HD8.out.size)); have y9 := (HD9.out.cell (p := ⟨g, 0, none⟩) hgl).trans HX0.out; clear hv hb))
              | (go_at_call 10; ((refine (texts_any _ _ _ _ _ _ w9 HV59.out.1 HV6.out.1).mono ?_); rintro e w10 ⟨rfl, hb⟩; simp only [decide_true]; have HD10 := Lib.hid (HD9.out.trans (hb.mono HD9.out.size)); have y10 := (HD10.out.cell (p := ⟨g, 0, none⟩) hgl).trans HX0.out; clear hb))
              | (go_at_call 7; ((refine (HAW.out _).mono ?_); rintro e w11 ⟨rfl, hb⟩; have HD11 := Lib.hid (HD10.out.trans (hb.mono HD10.out.size)); have y11 := (HD11.out.cell (p := ⟨g, 0, none⟩) hgl).trans HX0.out; clear hb)))
          go_wp2
          go_ret
          exact ⟨rfl, HBr.out.trans (HD11.out.mono HBr.out.size)⟩
end Go.Proofs.Ytekdmnecjgpokaa
