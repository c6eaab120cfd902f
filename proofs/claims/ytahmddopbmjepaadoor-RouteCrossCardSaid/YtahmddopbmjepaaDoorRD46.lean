/- For all keys, all nodes, asking or not, and every made space the law RouteCross returns true: keys of two slots are refused by everybody; a slot that nobody has is told so by everybody, whoever asks. No condition but that the library's own table and errors lie as the program's text lays them, which is tied. -/
import Derived.Test.YtahmddopbmjepaaDoorRD10
import Derived.Test.YtahmddopbmjepaaDoorRD45
import Derived.Test.YtahmddopbmjepaaDoorRD17
import Derived.ProofKit
import Derived.Test.YtahmddopbmjepaaDoorProg
import Derived.Test.YtahmddopbmjepaaDoorRD31
import Derived.Test.YtahmddopbmjepaaDoorTie
import Derived.OpenShut
import Derived.ShutString
import Derived.ChangeOld
namespace Go.Proofs.YtahmddopbmjepaaDoor
open Go.RowKit Go.Shelf
attribute [local go_sem] Oper.semAt_some
set_option linter.unusedVariables false
set_option linter.unusedSimpArgs false

/-- more than a statement goes through? -/
def greatP (p : Lp) : Bool := decide (200 < p.key.length) || It.greatB p.it.s p.it.fs p.it.ws
def greatPs (ps : List Lp) : Bool := (ps.take 60).any greatP || decide (50 < ps.length)
set_option maxRecDepth 100000 in
set_option maxHeartbeats 4000000 in
theorem dbGreat_any (a : Option Addr) (cap : Nat) (ps : List Lp) (w : World) (hP : Prs w a cap ps) :
    Calls Tryd.prog 8 #[.slice a ps.length cap] w fun r W => r = .returned (.bool (greatPs ps)) ∧ Below w.heap.size w W := by
  have HP := Lib.hid hP
  have hnI : (ps.length : Int) ≤ 9223372036854775807 := by have := hP.len; omega
  have HGR := Lib.hid (show greatPs ps = ((ps.take 60).any greatP || decide (50 < ps.length)) from rfl)
  clear hP
  go_enter Tryd.func8, Tryd.ntmps8
  go_wp2
  go_loopw [3] (fun i wr => ∃ n : Nat, n ≤ ps.length ∧ n ≤ 60 ∧ i = .int .i64 n ∧ Hid ((ps.take n).any greatP = false) ∧ Hid (Below w.heap.size w wr)) (fun i _ => 60 - (intOf i).toNat)
  case atStart => exact ⟨0, Nat.zero_le _, by omega, rfl, Lib.hid (by simp), Lib.hid (Below.refl _ _)⟩
  case round =>
    obtain ⟨n, hn, hn6, rfl, HJ, HK⟩ := hrel
    by_cases hlt : n < ps.length ∧ n < 60
    · obtain ⟨hlt, hl6⟩ := hlt
      have hP1 := HP.out.later HK.out
      obtain ⟨b, off, rfl, hb, hc⟩ := hP1.get (by omega)
      obtain ⟨q0, q1, q2, q3, q4, q5⟩ := hc n hlt
      have hok := hP1.at hlt
      have HX := Lib.hid (show (ps.take (n + 1)).any greatP = ((ps.take n).any greatP || greatP (ps.getD n Lp.zero)) by rw [take_succ_getD (d := Lp.zero) hlt, List.any_append]; simp)
      have HT := Lib.hid (show greatP (ps.getD n Lp.zero) = true → (ps.take 60).any greatP = true from fun h => by
        rw [List.any_eq_true]
        refine ⟨ps.getD n Lp.zero, ?_, h⟩
        rw [getD_eq hlt, ← List.getElem_take (j := 60) (h := by rw [List.length_take]; omega)]
        exact List.getElem_mem _)
      clear hc hP1
      obtain ⟨⟨key, k, s, aF, fs, cF, aL, ws, cL, x⟩, hq⟩ : ∃ q, ps.getD n Lp.zero = q := ⟨_, rfl⟩
      rw [hq] at q0 q1 q2 q3 q4 q5 hok HX HT
      clear hq
      obtain ⟨-, hs, hF, hL, -⟩ := hok
      have hM := great_any k x s aF cF fs aL cL ws wr hF hL hs
      simp only [itv] at hM
      simp only [] at q0 q1 q2 q3 q4 q5
      have k0 : (0 : Int) ≤ (n : Int) := by omega
      have k1 : (n : Int) < (ps.length : Int) := by omega
      have k6 : (n : Int) < 60 := by omega
      have HGA := Lib.hid (show greatP ⟨key, k, s, aF, fs, cF, aL, ws, cL, x⟩ = (decide (200 < key.length) || It.greatB s fs ws) from rfl)
      by_cases hbig : 200 < key.length
      · have b1 : (200 : Int) < (key.length : Int) := by omega
        have HQ := Lib.hid (show greatPs ps = true by rw [HGR.out, HT.out (by rw [HGA.out, decide_eq_true hbig]; rfl)]; rfl)
        clear HX HT hM hbig HGA
        go_wp2
        go_ret
        exact ⟨by rw [HQ.out]; rfl, HK.out⟩
      · have b1 : ¬ (200 : Int) < (key.length : Int) := by omega
        rw [decide_eq_false hbig, Bool.false_or] at HGA
        cases hg : It.greatB s fs ws with
        | true =>
          have HQ := Lib.hid (show greatPs ps = true by rw [HGR.out, HT.out (by rw [HGA.out, hg])]; rfl)
          rw [hg] at hM
          have HM := Lib.hid hM
          clear HX HT hM hbig HGA hg
          go_wp2_with fail
          refine HM.out.mono ?_
          rintro r w1 ⟨rfl, hb1⟩
          have HB2 := Lib.hid (HK.out.trans (hb1.mono HK.out.size))
          clear hb1
          go_wp2
          go_ret
          exact ⟨by rw [HQ.out]; rfl, HB2.out⟩
        | false =>
          have HQ := Lib.hid (show (ps.take (n + 1)).any greatP = false by rw [HX.out, HJ.out, HGA.out, hg]; rfl)
          rw [hg] at hM
          have HM := Lib.hid hM
          clear HX HT hM hbig HGA hg
          go_wp2_with fail
          refine HM.out.mono ?_
          rintro r w1 ⟨rfl, hb1⟩
          have HB2 := Lib.hid (HK.out.trans (hb1.mono HK.out.size))
          clear hb1 q0 q1 q2 q3 q4 q5
          go_wp2
          go_roundw
          case rel => exact ⟨n + 1, by omega, by omega, by go_num, HQ, HB2⟩
          case measure => simp [intOf]; omega
    · have HQ := Lib.hid (show greatPs ps = decide (50 < ps.length) by
        rw [HGR.out, show ps.take 60 = ps.take n by
          rcases Nat.lt_or_ge n ps.length with h | h
          · rw [show n = 60 by omega]
          · rw [List.take_of_length_le h, List.take_of_length_le (by omega)], HJ.out]
        rfl)
      by_cases hl : n < ps.length
      · have k1 : (n : Int) < (ps.length : Int) := by omega
        have k6 : ¬ (n : Int) < 60 := by omega
        have k5 : (50 : Int) < (ps.length : Int) := by omega
        have HQ2 := Lib.hid (HQ.out.trans (decide_eq_true (show 50 < ps.length by omega)))
        go_wp2
        go_ret
        exact ⟨by rw [HQ2.out]; rfl, HK.out⟩
      · have k1 : ¬ (n : Int) < (ps.length : Int) := by omega
        by_cases h5 : 50 < ps.length
        · have k5 : (50 : Int) < (ps.length : Int) := by omega
          have HQ2 := Lib.hid (HQ.out.trans (decide_eq_true h5))
          clear hlt hl h5
          go_wp2
          go_ret
          exact ⟨by rw [HQ2.out]; rfl, HK.out⟩
        · have k5 : ¬ (50 : Int) < (ps.length : Int) := by omega
          have HQ2 := Lib.hid (HQ.out.trans (decide_eq_false h5))
          clear hlt hl h5
          go_wp2
          go_ret
          exact ⟨by rw [HQ2.out]; rfl, HK.out⟩

end Go.Proofs.YtahmddopbmjepaaDoor
namespace Go.Proofs.YtahmddopbmjepaaDoor
open Go.RowKit Go.Shelf
set_option linter.unusedVariables false
set_option linter.unusedSimpArgs false

theorem Rt.lt_tr {a b c : List UInt8} (h : a < b) (h2 : b < c) : a < c := List.lt_trans h h2
/-- the keys rise. -/
def Rt.AscP (ps : List Db.P) : Prop := ps.Pairwise fun p q => p.key < q.key

theorem rtNotGreat_sm {s : List UInt8} {fs : List (List UInt8 × List UInt8)} {ws : List (List UInt8)} (h : It.greatB s fs ws = false) : s.length ≤ 1000000 ∧ fs.length ≤ 1000000 ∧ ws.length ≤ 1000000 ∧ (∀ p ∈ fs, p.1.length ≤ 1000000 ∧ p.2.length ≤ 1000000) ∧ ∀ t ∈ ws, t.length ≤ 1000000 := by
  unfold It.greatB at h
  simp only [Bool.or_eq_false_iff, decide_eq_false_iff_not] at h
  obtain ⟨⟨h1, h2⟩, ⟨h3, h4⟩, h5⟩ := h
  rw [List.take_of_length_le (by omega), List.any_eq_false] at h1 h2
  refine ⟨by omega, by omega, by omega, fun p hp => ?_, fun t ht => ?_⟩
  · have := h1 p hp
    simp only [It.bigF, Bool.or_eq_true, decide_eq_true_eq, not_or] at this
    omega
  · have := h2 t ht
    simp only [It.bigW, decide_eq_true_eq] at this
    omega
theorem rtNotGreatP {ps : List Lp} (h : greatPs ps = false) : ps.length ≤ 50 ∧ ∀ p ∈ ps, p.p.Sm := by
  unfold greatPs at h
  rw [Bool.or_eq_false_iff] at h
  have hl : ps.length ≤ 50 := by have := of_decide_eq_false h.2; omega
  refine ⟨hl, fun p hp => ?_⟩
  have h1 := h.1
  rw [List.take_of_length_le (by omega), List.any_eq_false] at h1
  have h2 := h1 p hp
  simp only [greatP, Bool.or_eq_true, decide_eq_true_eq, not_or, Bool.not_eq_true] at h2
  exact ⟨by have := h2.1; show p.key.length ≤ 1000000; omega, rtNotGreat_sm h2.2⟩
theorem rtMayS_inv {db : List Db.P} (h : Db.mayS db = true) : Rt.AscP db ∧ ∀ p ∈ db, p.key.length ≤ 40 ∧ It.mayB p.it = true := by
  unfold Db.mayS at h
  rw [List.all_eq_true] at h
  have gd : ∀ (j : Nat) (hj : j < db.length), db.getD j Db.P.zero = db[j] := fun j hj => by simp [List.getD, hj]
  have hat : ∀ i (hi : i < db.length), (db[i].key.length ≤ 40 ∧ It.mayB db[i].it = true) ∧ (i = 0 ∨ ∃ hj : i - 1 < db.length, db[i - 1].key < db[i].key) := fun i hi => by
    have h1 := h i (by simpa using hi)
    unfold Db.mayAt at h1
    rw [gd i hi] at h1
    simp only [Bool.and_eq_true, Bool.or_eq_true, decide_eq_true_eq, beq_iff_eq] at h1
    refine ⟨h1.1, h1.2.imp id fun h2 => ?_⟩
    rw [gd (i - 1) (by omega)] at h2
    exact ⟨by omega, h2⟩
  refine ⟨?_, fun p hp => ?_⟩
  · have step : ∀ d i (hi : i + d + 1 < db.length), db[i].key < db[i + d + 1].key := fun d => by
      induction d with
      | zero =>
        intro i hi
        rcases (hat (i + 0 + 1) hi).2 with h1 | ⟨_, h1⟩
        · omega
        · simpa using h1
      | succ d ih =>
        intro i hi
        rcases (hat (i + (d + 1) + 1) hi).2 with h1 | ⟨_, h1⟩
        · omega
        · have h2 := ih i (by omega)
          have e : i + (d + 1) + 1 - 1 = i + d + 1 := by omega
          simp only [e] at h1
          exact Rt.lt_tr h2 h1
    refine List.pairwise_iff_getElem.2 fun i j hi hj hij => ?_
    obtain ⟨d, rfl⟩ : ∃ d, j = i + d + 1 := ⟨j - i - 1, by omega⟩
    exact step d i hj
  · obtain ⟨i, hi, rfl⟩ := List.getElem_of_mem hp
    exact (hat i hi).1
theorem rtAscL {ps : List Lp} (h : Rt.AscP (ps.map Lp.p)) : AscL ps := fun i j hij hj => by
  have := List.pairwise_iff_getElem.1 (List.pairwise_map.1 h) i j (by omega) hj hij
  rw [getD_eq (by omega), getD_eq hj]
  exact this
end Go.Proofs.YtahmddopbmjepaaDoor
namespace Go.Proofs.YtahmddopbmjepaaDoor
open Go.ChangeShapes Go.WideShapes Go.ChangeAt Go.RowKit
theorem wf_u8' {z : Int} (h : (Lit.int .u8 z).wf = true) : 0 ≤ z ∧ z ≤ 255 := by
  unfold Lit.wf at h
  simp only [Bool.and_eq_true, decide_eq_true_eq] at h
  exact h
theorem wf_u16' {z : Int} (h : (Lit.int .u16 z).wf = true) : 0 ≤ z ∧ z ≤ 65535 := by
  unfold Lit.wf at h
  simp only [Bool.and_eq_true, decide_eq_true_eq] at h
  exact h
theorem wf_i32' {z : Int} (h : (Lit.int .i32 z).wf = true) : -2147483648 ≤ z ∧ z ≤ 2147483647 := by
  unfold Lit.wf at h
  simp only [Bool.and_eq_true, decide_eq_true_eq] at h
  exact h
theorem wf_i64' {z : Int} (h : (Lit.int .i64 z).wf = true) : -9223372036854775808 ≤ z ∧ z ≤ 9223372036854775807 := by
  unfold Lit.wf at h
  simp only [Bool.and_eq_true, decide_eq_true_eq] at h
  exact h
theorem str_of {a : ByteArray} : a = ⟨a.data.toList.toArray⟩ := by apply ByteArray.ext; simp
theorem size_of {a : ByteArray} (h : a.size ≤ maxLen) : a.data.toList.length ≤ 9223372036854775807 := by
  unfold maxLen at h
  rw [Array.length_toList]
  have : a.data.size = a.size := rfl
  omega
end Go.Proofs.YtahmddopbmjepaaDoor
namespace Go.Proofs.YtahmddopbmjepaaDoor
open Go.ChangeShapes Go.WideShapes Go.ChangeAt Go.RowKit
theorem wf_i8' {z : Int} (h : (Lit.int .i8 z).wf = true) : -128 ≤ z ∧ z ≤ 127 := by
  unfold Lit.wf at h
  simp only [Bool.and_eq_true, decide_eq_true_eq] at h
  exact h
theorem made_of (p : Option Addr) (cap : Nat) (ns : List UInt8) (w : World) (hB : Bytes w p ns) (hl : ns.length ≤ cap) (h60 : ns.length ≤ 60) (W : World) (hb : Below w.heap.size w W) :
    Calls Tryd.prog 17 #[.slice p ns.length cap] W (MadeDb W) := by
  refine (spcMake_any p cap ns W (hB.later hb) hl (by omega)).mono ?_
  rintro e w' ⟨a, c, ps, rfl, hp, -, hq, hb2⟩
  refine ⟨a, c, ps, rfl, hp, rtAscL (by rw [hq]; exact numDb_asc ns), fun q h => (numDb_gd ns q.p (by rw [← hq]; exact List.mem_map_of_mem h)).sm, ?_, hb2⟩
  have := numDb_len ns
  rw [← hq, List.length_map] at this
  omega
theorem routeCross_walk (a b : ByteArray) (id ma : Int) (asking : Bool) (p : Option Addr) (cap : Nat) (ns : List UInt8) (W : World) (h1 : a.size ≤ maxLen) (h2 : b.size ≤ maxLen) (h3 : (Lit.int .u8 id).wf = true) (h4 : (Lit.int .i8 ma).wf = true) (h5 : ns.length ≤ cap ∧ cap ≤ maxLen) (h6 : Bytes W p ns) (henv : Env W) :
    Calls Tryd.prog 7 #[.string a, .string b, .int .u8 id, .int .i8 ma, .bool asking, .slice p ns.length cap] W fun e w' => e = .returned (.bool true) ∧ Below W.heap.size W w' := by
  have hM : maxLen = 9223372036854775807 := by decide
  rw [str_of (a := a), str_of (a := b)]
  exact routeCross_go a.data.toList b.data.toList id ma asking p cap ns W henv (size_of h1) (size_of h2) (wf_u8' h3).1 (wf_u8' h3).2 (wf_i8' h4).1 (wf_i8' h4).2 (by omega) fun h60 W' hb => made_of p cap ns W h6 h5.1 h60 W' hb
end Go.Proofs.YtahmddopbmjepaaDoor
namespace Go.Proofs.YtahmddopbmjepaaDoor.routeCross
open Go.ChangeShapes Go.WideShapes Go.ChangeAt Go.RowKit
open Go.ChangeMaps (open_string shut_string)
set_option linter.unusedVariables false

theorem own : ownKnob Tryd.prog.godebug = none := by kernel_rfl
theorem laidOut : laidOutB Tryd.prog = true := by kernel_rfl

set_option maxRecDepth 100000 in
theorem contract (H : Type) (enc : TypeId × Value → H) (W : World) (base : Nat) (args : Array Value) (ds gs : List (DataW H)) (before : List MemPlace)
    (hval0 : ∀ (j : Nat) t v, Tryd.f7.params[j]? = some t → args[j]? = some v → Value.okWide Tryd.prog W .any base t v)
    (hW : DataW.Whole enc Tryd.prog Tryd.f7.params.toList Rows.routeCrossSpec.vars false W args.toList ds gs before) (hL : laidMetH Tryd.prog Rows.routeCrossRow.laid W) (hS : W.ShapedOpen Tryd.prog) :
    Calls Tryd.prog 7 args W fun e W' => ∃ v, e = .returned v ∧ Rows.routeCrossSpec.post enc Tryd.prog Tryd.f7 false true false false W args v W' := by
  have hval : ∀ (j : Nat) t v, Tryd.f7.params[j]? = some t → args[j]? = some v → Value.okWide Tryd.prog W .any base t v := hval0
  have hW' := hW
  obtain ⟨p, q, hA0, hV, rfl, hfz, hnd⟩ := hW
  have hA : DataW.TrodAll enc Tryd.prog W 0 (fun _ => true) true Tryd.f7.params.toList args.toList ds p := hA0
  rw [Tryd.params7] at hA hval
  obtain ⟨v0, vs0, d0, ds0, p0, q0, hargs, rfl, rfl, h0, r0⟩ := trodAll_cons hA
  obtain ⟨v1, vs1, d1, ds1, p1, q1, rfl, rfl, rfl, h1, r1⟩ := trodAll_cons r0
  obtain ⟨v2, vs2, d2, ds2, p2, q2, rfl, rfl, rfl, h2, r2⟩ := trodAll_cons r1
  obtain ⟨v3, vs3, d3, ds3, p3, q3, rfl, rfl, rfl, h3, r3⟩ := trodAll_cons r2
  obtain ⟨v4, vs4, d4, ds4, p4, q4, rfl, rfl, rfl, h4, r4⟩ := trodAll_cons r3
  obtain ⟨v5, vs5, d5, ds5, p5, q5, rfl, rfl, rfl, h5, r5⟩ := trodAll_cons r4
  obtain ⟨rfl, rfl, rfl⟩ := trodAll_nil r5
  obtain rfl : args = #[v0, v1, v2, v3, v4, v5] := by cases args; simp_all
  obtain ⟨rfl, rfl⟩ := trodVars_none hV
  obtain ⟨a0, rfl, rfl, rfl, w0⟩ := open_string Tryd.underlying9 (hval 0 9 v0 rfl rfl) h0
  obtain ⟨a1, rfl, rfl, rfl, w1⟩ := open_string Tryd.underlying9 (hval 1 9 v1 rfl rfl) h1
  obtain ⟨a2, rfl, rfl, rfl, w2⟩ := open_int Tryd.underlying5 (hval 2 5 v2 rfl rfl) h2
  obtain ⟨a3, rfl, rfl, rfl, w3⟩ := open_int Tryd.underlying73 (hval 3 73 v3 rfl rfl) h3
  obtain ⟨a4, rfl, rfl, rfl⟩ := open_bool Tryd.underlying4 (hval 4 4 v4 rfl rfl) h4
  obtain ⟨a5, len5, cap5, rfl⟩ := okWide_slice Tryd.underlying50 (hval 5 50 v5 rfl rfl)
  have k5 := h5
  have lt5 : ∀ x ∈ p5, x.block < W.heap.size := by obtain ⟨m, hm⟩ := k5; exact DataW.trod_lt m _ _ _ hm
  obtain ⟨z5, rfl, l5, w5⟩ : ∃ l : List UInt8, len5 = l.length ∧ (l.length ≤ cap5 ∧ cap5 ≤ maxLen) ∧ Bytes W a5 l := by
    obtain ⟨fuel, hf⟩ := h5
    rcases open_ints Tryd.underlying50 Tryd.underlying5 (by kernel_rfl) hf with ⟨hcs, _⟩ | ⟨x, l, c, zs, hcs, _, hl, hm, hz, _, hcell, hwz⟩
    · simp [Value.cells] at hcs
      obtain ⟨rfl, rfl, rfl⟩ := hcs
      exact ⟨[], rfl, ⟨Nat.le_refl _, Nat.zero_le _⟩, .inl rfl⟩
    · simp [Value.cells] at hcs
      obtain ⟨rfl, rfl, rfl⟩ := hcs
      obtain ⟨l', e1, e2, e3⟩ := bytes_of W x len5 cap5 zs hl hm (by simp at hz; omega) hcell hwz
      exact ⟨l', e1, ⟨by omega, by omega⟩, e3⟩
  clear hA0 hval0
  refine (routeCross_walk a0 a1 a2 a3 a4 a5 cap5 z5 W w0 w1 w2 w3 l5 w5 (env_of_laid hL hS)).mono fun e W' ⟨he, bel⟩ => ?_
  subst he
  exact ⟨_, rfl, _, _, _, [], _, [], hW', trodAll_mk1 (shut_bool Tryd.underlying4 _), (trodAll_cons_mk (shut_string Tryd.underlying9 w0) (trodAll_cons_mk (shut_string Tryd.underlying9 w1) (trodAll_cons_mk (shut_int Tryd.underlying5 w2) (trodAll_cons_mk (shut_int Tryd.underlying73 w3) (trodAll_cons_mk (shut_bool Tryd.underlying4 a4) (trodAll_cons_mk (Below.trod laidOut (by kernel_rfl) (of_decide_eq_true (by kernel_rfl)) k5 bel lt5) trodAll_mk0)))))), rfl, bel.frame _, fun h => by cases h⟩

theorem reads (os : Os) {H : Type} (enc : TypeId × Value → H) : ∃ places, DataW.whole enc Tryd.prog ((laidWorld os).forCall (fun _ _ => 0) ⟨#[], #[.string ByteArray.empty, .string ByteArray.empty, .int .u8 0, .int .i8 0, .bool false, .slice none 0 0], []⟩).memory Tryd.f7.params.toList Rows.routeCrossSpec.vars false #[Value.string ByteArray.empty, Value.string ByteArray.empty, Value.int .u8 0, Value.int .i8 0, Value.bool false, Value.slice none 0 0].toList 8 = some ([.lit (.string []), .lit (.string []), .lit (.int .u8 0), .lit (.int .i8 0), .lit (.bool false), .nil], [], places) :=
  ⟨[], by kernel_rfl⟩

set_option maxRecDepth 100000 in
theorem lifted (os : Os) (started : os.Started) (H : Type) (enc : TypeId × Value → H) (F : Stop.Interp) :
    ReturnsInHanded {} Tryd.checked os 7 .any ((OpenSpec.ofChange Rows.routeCrossSpec).preRow enc Tryd.prog Tryd.f7 Rows.routeCrossRow.domain false Rows.routeCrossRow.laid) (((OpenSpec.ofChange Rows.routeCrossSpec).at F).post enc Tryd.prog Tryd.f7 false true false false) := by
  obtain ⟨places, hx⟩ := reads os enc
  refine returnsInHanded_of_row (C := Tryd.checked) (s := OpenSpec.ofChange Rows.routeCrossSpec) own started (by kernel_rfl) Tryd.func7
    (witness_row_at (enc := enc) (C := Tryd.checked) false (laidWorld os) #[.string ByteArray.empty, .string ByteArray.empty, .int .u8 0, .int .i8 0, .bool false, .slice none 0 0] rfl (by kernel_rfl) (by kernel_rfl) (by kernel_rfl)
      (OpenSpec.preRow_of_cond 8 hx (by kernel_rfl) (fun k hk => by cases hk) (by kernel_rfl) (laid_met os _))) ?_
  intro W base args ds gs before hval hW _ _ _ hL hS _
  exact contract H enc W base args ds gs before hval hW hL hS

theorem over : Rows.RouteCrossSaid :=
  OpenClaim.holds_of_cond 7 Tryd.f7 rfl rfl rfl rfl rfl rfl rfl ⟨rfl, rfl, rfl, rfl, rfl⟩ rfl rfl rfl rfl rfl (by kernel_rfl) Tryd.func7 (by kernel_rfl)
    (of_decide_eq_true (by kernel_rfl)) (by unfold Func.isWrapper; first | (rw [if_pos (by decide +kernel)]; kernel_rfl) | (rw [if_neg (by decide +kernel)]; exact ⟨rfl, rfl⟩))
    (fun os started H enc _ F => by rw [OpenClaim.pre_eq_preRow]; exact lifted os started H enc F)

theorem plain (f : FuncId) (fn : Func) (hf : Tryd.pinned.checked.prog.funcNamed "caravan/caravanlaw14.RouteCross" = some f) (hfn : Tryd.pinned.checked.prog.funcs[f]? = some fn) :
    true = Tryd.pinned.checked.prog.looks [] ∧ ∀ (j : Nat) t, fn.params[j]? = some t → Tryd.pinned.checked.prog.wantsStandIn t = false := by
  obtain rfl : f = 7 := Option.some.inj ((show Tryd.prog.funcNamed "caravan/caravanlaw14.RouteCross" = some 7 by kernel_rfl).symm.trans hf) |>.symm
  obtain rfl : fn = Tryd.f7 := (Option.some.inj (Tryd.func7.symm.trans hfn)).symm
  refine ⟨by kernel_rfl, fun j t ht => ?_⟩
  rw [Tryd.params7] at ht
  have hm := Array.mem_of_getElem? ht
  simp only [List.mem_toArray, List.mem_cons, List.mem_nil_iff, or_false] at hm
  rcases hm with rfl | rfl | rfl | rfl | rfl | rfl
  · exact (show Tryd.prog.wantsStandIn 9 = false by kernel_rfl)
  · exact (show Tryd.prog.wantsStandIn 9 = false by kernel_rfl)
  · exact (show Tryd.prog.wantsStandIn 5 = false by kernel_rfl)
  · exact (show Tryd.prog.wantsStandIn 73 = false by kernel_rfl)
  · exact (show Tryd.prog.wantsStandIn 4 = false by kernel_rfl)
  · exact (show Tryd.prog.wantsStandIn 50 = false by kernel_rfl)

theorem proved : Rows.RouteCrossCardSaid :=
  Claim7.holds_tied_plain_at .later [] _ _ _ _ over (fun _ h => by cases h) (by kernel_rfl) (fun _ h => by cases h) routeCross_row_tie rfl ⟨rfl, rfl⟩ (by kernel_rfl) rfl plain (by kernel_rfl)
#print axioms proved
end Go.Proofs.YtahmddopbmjepaaDoor.routeCross
