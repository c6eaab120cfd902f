/- The contract of the program's May (11.1). A law's arguments of type []api.Pair, []api.Effect, opened. What the walks of the laws on spaces share: items told twice, spaces that are one, spaces that may be (11). -/
import Derived.Test.YtkmdpmkjcfccnaaDbSame
import Derived.Test.YtkmdpmkjcfccnaaSpcFind
import Derived.BigQuiet
import Derived.Deep.Cut
import Derived.Deep.CutRange
import Derived.Deep.DeepCutAuto
import Derived.Test.YtkmdpmkjcfccnaaItOpen
import Derived.Test.YtkmdpmkjcfccnaaDbBase
import Derived.Test.YtkmdpmkjcfccnaaSpaceDeadWalk
namespace Go.Proofs.Ytkmdpmkjcfccnaa
open Go.RowKit Go.Shelf
attribute [local go_sem] Oper.semAt_some
set_option linter.unusedVariables false
set_option linter.unusedSimpArgs false

theorem below_dN {B : Nat} {a w : World} (h : Below B a w) (n : Nat) : Below B a (w.drewN n) := ⟨h.os, h.tape, h.output, h.size, h.block⟩

set_option maxRecDepth 100000 in
set_option maxHeartbeats 4000000 in
theorem spmay_any (a : Option Addr) (cap : Nat) (ps : List Lp) (w : World) (hP : Prs w a cap ps) (hn : ps.length ≤ 1000000) (hsm : ∀ p ∈ ps, p.it.fs.length ≤ 1000000 ∧ p.it.ws.length ≤ 1000000) :
    Calls Try.prog 11 #[.slice a ps.length cap] w fun e w' => e = .returned (.bool (Db.mayS (ps.map Lp.p))) ∧ Below w.heap.size w w' := by
  have HP := Lib.hid hP
  have HSM := Lib.hid hsm
  have HG := Lib.hid (show ∀ i, Db.mayAt (ps.map Lp.p) i = (decide (((ps.map Lp.p).getD i Db.P.zero).key.length ≤ 40) && It.mayB ((ps.map Lp.p).getD i Db.P.zero).it && (i == 0 || decide (((ps.map Lp.p).getD (i - 1) Db.P.zero).key < ((ps.map Lp.p).getD i Db.P.zero).key))) from fun i => rfl)
  unfold Db.mayS
  rw [List.length_map]
  generalize Db.mayAt (ps.map Lp.p) = fB at *
  have hnI : (ps.length : Int) ≤ 1000000 := by omega
  clear hP hsm
  go_enter Try.func11, Try.ntmps11
  go_wp2
  go_loopw [2, 3, 4, 5, 8] (fun r _ _ _ i wr => ∃ n : Nat, n ≤ ps.length ∧ r = .bool false ∧ i = .int .i64 n ∧ Hid (∀ j, j < n → fB j = true) ∧ Hid (Below w.heap.size w wr)) (fun _ _ _ _ i _ => ps.length - (intOf i).toNat)
  case atStart => exact ⟨0, Nat.zero_le _, rfl, rfl, Lib.hid fun j h => by omega, Lib.hid (Below.refl _ _)⟩
  case round =>
    obtain ⟨n, hn', rfl, rfl, HJ, HK⟩ := hrel
    by_cases hlt : n < ps.length
    · have hP1 := HP.out.later HK.out
      obtain ⟨b, off, rfl, hb, hc⟩ := hP1.get (by omega)
      have hck := hc n hlt
      have hok := hP1.at hlt
      have hsm := HSM.out (ps.getD n Lp.zero) (by rw [getD_eq hlt]; exact List.getElem_mem hlt)
      have HX := HG.out n
      rw [prs_key ps n hlt] at HX
      have HZ : Hid (∀ m, n = m + 1 → wr.cell? ⟨b, off + m * 6, none⟩ = some (.string ⟨(ps.getD m Lp.zero).key.toArray⟩) ∧ ((ps.map Lp.p).getD (n - 1) Db.P.zero).key = (ps.getD m Lp.zero).key) := Lib.hid fun m h => ⟨(hc m (by omega)).1, by rw [h, Nat.add_sub_cancel, prs_key ps m (by omega)]; rfl⟩
      clear hc
      obtain ⟨⟨key, k, s, aF, fs, cF, aL, ws, cL, x⟩, hq⟩ : ∃ q, ps.getD n Lp.zero = q := ⟨_, rfl⟩
      rw [hq] at hck hok HX hsm
      clear hq
      obtain ⟨q0, q1, q2, q3, q4, q5⟩ := hck
      have k0 : (0 : Int) ≤ (n : Int) := by omega
      have k1 : (n : Int) < (ps.length : Int) := by omega
      have hM := fun W (hF : Fds W aF cF fs) (hL : Wds W aL cL ws) => may_any k x s aF cF fs aL cL ws W hF hL hsm.1 hsm.2
      simp only [itv] at hM
      have HM := Lib.hid hM
      obtain ⟨-, -, hFi, hLi, -⟩ := hok
      generalize hz' : ((ps.map Lp.p).getD (n - 1) Db.P.zero).key = z' at HX HZ
      replace HX : fB n = (decide (key.length ≤ 40) && It.mayB ⟨k, s, fs, ws, x⟩ && (n == 0 || decide (z' < key))) := HX
      obtain ⟨w1, hw1⟩ : ∃ w1, wr.alloc (.cells #[.string ⟨key.toArray⟩, .int .i64 k, .string ⟨s.toArray⟩, .slice aF fs.length cF, .slice aL ws.length cL, .int .i64 x] 60) = w1 := ⟨_, rfl⟩
      have hx1 := World.alloc_heap_new wr (.cells #[.string ⟨key.toArray⟩, .int .i64 k, .string ⟨s.toArray⟩, .slice aF fs.length cF, .slice aL ws.length cL, .int .i64 x] 60)
      have hb1 : Below wr.heap.size wr w1 := by rw [← hw1]; exact (Below.refl _ wr).alloc (Nat.le_refl _) _
      rw [hw1] at hx1
      have hp : PAt w1 wr.heap.size 0 ⟨key, k, s, aF, fs, cF, aL, ws, cL, x⟩ := by
        unfold PAt
        simp [World.cell?, hx1]
      have HP1 := Lib.hid hp
      have HW1 := Lib.hid hw1
      have HB1 := Lib.hid hb1
      have HK1 := Lib.hid (HK.out.trans (hb1.mono HK.out.size))
      have HFI := Lib.hid (hFi.later hb1)
      have HLI := Lib.hid (hLi.later hb1)
      clear hM hz' hp hw1 hx1 hb1 hFi hLi hsm
      have tail : ∀ (asc : Bool), (asc = true ↔ (n == 0 || decide (z' < key)) = true) → True := fun _ _ => trivial
      clear tail
      go_upto_region 4 with (fail)
      rw [show wr.alloc (.cells #[.string ⟨key.toArray⟩, .int .i64 k, .string ⟨s.toArray⟩, .slice aF fs.length cF, .slice aL ws.length cL, .int .i64 x] 60) = w1 from HW1.out]
      go_cut [5] (fun v W => v = .bool (n == 0 || decide (z' < key)) ∧ Below w1.heap.size w1 W)
      case first =>
        obtain ⟨p0, p1, p2, p3, p4, p5⟩ := HP1.out
        by_cases h0 : n = 0
        · subst h0
          go_quiet (fail)
          go_wp2_with fail
          go_meet
          case rel => exact ⟨by simp, below_dN (Below.refl _ w1) _⟩
        · obtain ⟨m, hm⟩ : ∃ m, n = m + 1 := ⟨n - 1, by omega⟩
          obtain ⟨z1, z2⟩ := HZ.out m hm
          have y1 := (HB1.out.cell (p := ⟨b, off + m * 6, none⟩) hb).trans z1
          have hn0 : ¬ (n : Int) = 0 := by omega
          have hnb : ((n : Int) == 0) = false := by rw [beq_eq_false_iff_ne]; exact hn0
          have hsub : (n : Int) - 1 = (m : Int) := by omega
          have hwm : IntKind.i64.wrap ((m : Int)) = (m : Int) := IntWalk.i64_in _ (by omega)
          have m0 : (0 : Int) ≤ (m : Int) := by omega
          have m1 : (m : Int) < (ps.length : Int) := by omega
          have HN := Lib.hid hm
          clear hm h0 z1
          go_quiet (fail)
          go_wp2_with fail
          go_meet
          case rel => exact ⟨by rw [bytesLess_eq, z2]; simp [HN.out], below_dN (Below.refl _ w1) _⟩
      case rest =>
        obtain ⟨rfl, hwc⟩ := hcut
        obtain ⟨asc, hasc⟩ : ∃ asc, (n == 0 || decide (z' < key)) = asc := ⟨_, rfl⟩
        rw [hasc] at HX ⊢
        have HKc := Lib.hid (HK1.out.trans (hwc.mono HK1.out.size))
        obtain ⟨p0, p1, p2, p3, p4, p5⟩ := HP1.out.keep (hwc.block _ (by
          obtain ⟨g0, -⟩ := HP1.out
          exact World.block_lt_of_cell? _ _ g0))
        have HFc := Lib.hid (HFI.out.later hwc)
        have HLc := Lib.hid (HLI.out.later hwc)
        clear hwc hasc HZ
        by_cases hbig : 40 < key.length
        · have HQ : Hid (fB n = false) := Lib.hid (by rw [HX, decide_eq_false (by omega)]; rfl)
          have b1 : (40 : Int) < (key.length : Int) := by omega
          cases asc <;>
          · go_wp2_with fail
            go_ret
            exact ⟨by rw [all_false hlt HQ.out]; rfl, HKc.out⟩
        · have b1 : ¬ (40 : Int) < (key.length : Int) := by omega
          have hb2 : key.length ≤ 40 := by omega
          cases asc with
          | false =>
            have HQ : Hid (fB n = false) := Lib.hid (by rw [HX]; simp)
            go_wp2_with fail
            go_ret
            exact ⟨by rw [all_false hlt HQ.out]; rfl, HKc.out⟩
          | true =>
            have HC := Lib.hid (HM.out _ HFc.out HLc.out)
            obtain ⟨mb, hmb⟩ : ∃ mb, It.mayB ⟨k, s, fs, ws, x⟩ = mb := ⟨_, rfl⟩
            rw [hmb] at HC HX
            have HQ : Hid (fB n = mb) := Lib.hid (by rw [HX, decide_eq_true hb2]; simp)
            clear hmb
            go_wp2_with fail
            refine HC.out.mono ?_
            rintro e w4 ⟨rfl, hb4⟩
            have HK4 := Lib.hid (HKc.out.trans (hb4.mono HKc.out.size))
            clear hb4 p0 p1 p2 p3 p4 p5
            cases mb with
            | false =>
              go_wp2_with fail
              go_ret
              exact ⟨by rw [all_false hlt HQ.out]; rfl, HK4.out⟩
            | true =>
              go_wp2_with fail
              go_roundw
              case rel => exact ⟨n + 1, by omega, rfl, by go_num, Lib.hid (all_upto HJ.out HQ.out), HK4⟩
              case measure => simp [intOf]; omega
    · obtain rfl : n = ps.length := by omega
      have k1 : ¬ (ps.length : Int) < (ps.length : Int) := by omega
      have HT : Hid ((List.range ps.length).all fB = true) := Lib.hid (List.all_eq_true.2 fun j hj => HJ.out j (by simpa using hj))
      go_wp2
      go_ret
      exact ⟨by rw [HT.out]; rfl, HK.out⟩
end Go.Proofs.Ytkmdpmkjcfccnaa
namespace Go.Proofs.Ytkmdpmkjcfccnaa
open Go.ChangeShapes Go.WideShapes Go.ChangeAt Go.RowKit
open Go.Deep (hone_of)
set_option linter.unusedVariables false

section
variable {H : Type} {enc : TypeId × Value → H} {w : World} {base : Nat} {spare : Nat → Bool} {held : Bool}
theorem open_fields2 {fuel : Nat} {cs : List Value} {x : DataW H × List MemPlace} (h : DataW.trod enc Try.prog w base spare held fuel 28 cs = some x) : ∃ (a : Option Addr) (cap : Nat) (l : List (List UInt8 × List UInt8)), cs = [.slice a l.length cap] ∧ Fds w a cap l ∧ (a = none → cap = 0) := by
  obtain ⟨a, cap, l, e, hF⟩ := open_fields h
  refine ⟨a, cap, l, e, hF, fun ha => ?_⟩
  rcases DataW.trod_slice Try.underlying28 h with ⟨e3, -⟩ | ⟨a', len, cap', elems, rest, n', hn', e3, -⟩
  · rw [e] at e3
    simp only [List.cons.injEq, and_true, Value.slice.injEq] at e3
    exact e3.2.2
  · rw [e, ha] at e3
    simp only [List.cons.injEq, and_true, Value.slice.injEq] at e3
    cases e3.1

set_option maxRecDepth 100000 in
/-- the cells of an item. -/
theorem open_icells {fuel : Nat} {cs : List Value} {x : DataW H × List MemPlace} (h : DataW.trod enc Try.prog w base spare held fuel 31 cs = some x) : ∃ q : Li, cs = q.cs ∧ q.Ok w := by
  have hM : maxLen = 9223372036854775807 := by decide
  obtain ⟨ys, n, hn, hx, hlen, hyl, hg⟩ := DataW.trod_struct Try.underlying31 h
  have hC : Try.prog.cellsOf 31 = 5 := by kernel_rfl
  rw [hC] at hlen
  have k1 : Try.prog.cellsOf 3 = 1 := by kernel_rfl
  have k2 : Try.prog.cellsOf 9 = 1 := by kernel_rfl
  have k3 : Try.prog.cellsOf 28 = 1 := by kernel_rfl
  have k4 : Try.prog.cellsOf 29 = 1 := by kernel_rfl
  match cs, hlen with
  | [c0, c1, c2, c3, c4], _ =>
  match ys, hyl with
  | [y0, y1, y2, y3, y4], _ =>
    have t0 : DataW.trod enc Try.prog w base spare held n 3 [c0] = some y0 := by simpa [k1] using hg 0 _ rfl
    have t1 : DataW.trod enc Try.prog w base spare held n 9 [c1] = some y1 := by simpa [k2] using hg 1 _ rfl
    have t2 : DataW.trod enc Try.prog w base spare held n 28 [c2] = some y2 := by simpa [k3] using hg 2 _ rfl
    have t3 : DataW.trod enc Try.prog w base spare held n 29 [c3] = some y3 := by simpa [k4] using hg 3 _ rfl
    have t4 : DataW.trod enc Try.prog w base spare held n 3 [c4] = some y4 := by simpa [k1] using hg 4 _ rfl
    obtain ⟨z0, e0, -, w0⟩ := DataW.trod_int Try.underlying3 t0
    obtain ⟨z1, e1, -, w1⟩ := DataW.trod_string Try.underlying9 t1
    obtain ⟨aF, cF, fs, e2, hF, hnF⟩ := open_fields2 t2
    obtain ⟨aL, cL, ws, e3, hL, hnL⟩ := open_words t3
    obtain ⟨z4, e4, -, w4⟩ := DataW.trod_int Try.underlying3 t4
    simp only [List.cons.injEq, and_true] at e0 e1 e2 e3 e4
    subst e0 e1 e2 e3 e4
    exact ⟨⟨z0, z1.data.toList, aF, fs, cF, aL, ws, cL, z4⟩, by unfold Li.cs; rw [mk_of], by show z1.data.toList.length ≤ _; rw [len_of]; omega, hF, hL, hnF, hnL⟩

set_option maxRecDepth 100000 in
/-- the cells of a pair. -/
theorem open_pcells {fuel : Nat} {cs : List Value} {x : DataW H × List MemPlace} (h : DataW.trod enc Try.prog w base spare held fuel 60 cs = some x) : ∃ q : Lp, cs = q.cs ∧ q.Ok w := by
  have hM : maxLen = 9223372036854775807 := by decide
  obtain ⟨ys, n, hn, hx, hlen, hyl, hg⟩ := DataW.trod_struct Try.underlying60 h
  have hC : Try.prog.cellsOf 60 = 6 := by kernel_rfl
  rw [hC] at hlen
  have k2 : Try.prog.cellsOf 9 = 1 := by kernel_rfl
  have k5 : Try.prog.cellsOf 31 = 5 := by kernel_rfl
  match cs, hlen with
  | [c0, c1, c2, c3, c4, c5], _ =>
  match ys, hyl with
  | [y0, y1], _ =>
    have t0 : DataW.trod enc Try.prog w base spare held n 9 [c0] = some y0 := by simpa [k2] using hg 0 _ rfl
    have t1 : DataW.trod enc Try.prog w base spare held n 31 [c1, c2, c3, c4, c5] = some y1 := by simpa [k2, k5] using hg 1 _ rfl
    obtain ⟨z0, e0, -, w0⟩ := DataW.trod_string Try.underlying9 t0
    obtain ⟨q, e1, hq⟩ := open_icells t1
    simp only [List.cons.injEq, and_true] at e0
    subst e0
    exact ⟨⟨z0.data.toList, q⟩, by unfold Lp.cs; rw [mk_of, ← e1], by show z0.data.toList.length ≤ _; rw [len_of]; omega, hq⟩

set_option maxRecDepth 100000 in
/-- the cells of an effect. -/
theorem open_ecells {fuel : Nat} {cs : List Value} {x : DataW H × List MemPlace} (h : DataW.trod enc Try.prog w base spare held fuel 54 cs = some x) : ∃ q : Le, cs = q.cs ∧ q.Ok w := by
  have hM : maxLen = 9223372036854775807 := by decide
  obtain ⟨ys, n, hn, hx, hlen, hyl, hg⟩ := DataW.trod_struct Try.underlying54 h
  have hC : Try.prog.cellsOf 54 = 7 := by kernel_rfl
  rw [hC] at hlen
  have k1 : Try.prog.cellsOf 4 = 1 := by kernel_rfl
  have k2 : Try.prog.cellsOf 9 = 1 := by kernel_rfl
  have k5 : Try.prog.cellsOf 31 = 5 := by kernel_rfl
  match cs, hlen with
  | [c0, c1, c2, c3, c4, c5, c6], _ =>
  match ys, hyl with
  | [y0, y1, y2], _ =>
    have t0 : DataW.trod enc Try.prog w base spare held n 9 [c0] = some y0 := by simpa [k2] using hg 0 _ rfl
    have t1 : DataW.trod enc Try.prog w base spare held n 4 [c1] = some y1 := by simpa [k1, k2] using hg 1 _ rfl
    have t2 : DataW.trod enc Try.prog w base spare held n 31 [c2, c3, c4, c5, c6] = some y2 := by simpa [k1, k2, k5] using hg 2 _ rfl
    obtain ⟨z0, e0, -, w0⟩ := DataW.trod_string Try.underlying9 t0
    obtain ⟨z1, e1, -⟩ := DataW.trod_bool Try.underlying4 t1
    obtain ⟨q, e2, hq⟩ := open_icells t2
    simp only [List.cons.injEq, and_true] at e0 e1
    subst e0 e1
    exact ⟨⟨z0.data.toList, z1, q⟩, by unfold Le.cs; rw [mk_of, ← e2], by show z0.data.toList.length ≤ _; rw [len_of]; omega, hq⟩

set_option maxRecDepth 100000 in
/-- a slice of them. -/
theorem open_pairs {fuel : Nat} {cs : List Value} {x : DataW H × List MemPlace} (h : DataW.trod enc Try.prog w base spare held fuel 22 cs = some x) : ∃ (a : Option Addr) (cap : Nat) (ps : List Lp), cs = [.slice a ps.length cap] ∧ Prs w a cap ps ∧ (a = none → cap = 0) := by
  have hM : maxLen = 9223372036854775807 := by decide
  have hC : Try.prog.cellsOf 60 = 6 := by kernel_rfl
  rcases DataW.trod_slice Try.underlying22 h with ⟨e3, -⟩ | ⟨a, len, cap, elems, rest, n', hn', e3, hx3, hb, hl, hcm, hel0, hel1, -, -⟩
  · exact ⟨none, 0, [], e3, ⟨RowsIn.nil 6 w, by simp⟩, fun _ => rfl⟩
  · rcases Nat.eq_zero_or_pos len with rfl | hpos
    · exact ⟨some a, cap, [], e3, ⟨⟨Nat.zero_le _, by omega, .inl rfl⟩, by simp⟩, fun e => by cases e⟩
    have hel : ∀ i, i < len → ∃ q : Lp, (∀ j, j < 6 → w.cell? ((a.add (i * 6)).add j) = q.cs[j]?) ∧ q.Ok w := by
      intro i hil
      have he := hel1 i hil
      rw [List.getElem?_eq_getElem (by omega)] at he
      obtain ⟨cs', hc, ht'⟩ := Option.bind_eq_some_iff.1 he
      rw [hC] at hc
      obtain ⟨_, hcl, hat⟩ := World.cells?_some hc
      obtain ⟨q, rfl, hq⟩ := open_pcells ht'
      exact ⟨q, fun j hj => hat j hj, hq⟩
    obtain ⟨b, off, spot⟩ := a
    have hspot : spot = none := by
      obtain ⟨q, c0, -⟩ := hel 0 hpos
      have h1 := c0 0 (by decide)
      have h2 : w.cell? (((⟨b, off, spot⟩ : Addr).add (0 * 6)).add 0) = some (.string ⟨q.key.toArray⟩) := h1.trans rfl
      simpa [Addr.add] using World.cell?_spot h2
    subst hspot
    have hadd : ∀ i j, ((⟨b, off, none⟩ : Addr).add (i * 6)).add j = ⟨b, off + i * 6 + j, none⟩ := fun i j => by rw [add_none, add_none]
    obtain ⟨ps, hll, hlp⟩ := list_of Lp.zero (fun i q => (∀ j, j < 6 → w.cell? ⟨b, off + i * 6 + j, none⟩ = q.cs[j]?) ∧ q.Ok w) len (fun i hil => by
      obtain ⟨q, c0, hq⟩ := hel i hil
      exact ⟨q, fun j hj => by rw [← hadd]; exact c0 j hj, hq⟩)
    have hbl : b < w.heap.size := by
      have h1 := (hlp 0 hpos).1 0 (by decide)
      exact World.block_lt_of_cell? w _ (h1.trans rfl)
    refine ⟨some ⟨b, off, none⟩, cap, ps, by rw [hll]; exact e3, ⟨⟨by rw [List.length_map]; omega, by omega, .inr ⟨b, off, rfl, hbl, fun k hk j hj => ?_⟩⟩, fun q hq => ?_⟩, fun e => by cases e⟩
    · rw [List.length_map] at hk
      rw [(hlp k (by omega)).1 j hj, map_getD Lp.cs ps Lp.zero [] hk]
    · obtain ⟨i, hi, rfl⟩ := List.getElem_of_mem hq
      have := (hlp i (by omega)).2
      rwa [getD_eq hi] at this

set_option maxRecDepth 100000 in
/-- a slice of them. -/
theorem open_effects {fuel : Nat} {cs : List Value} {x : DataW H × List MemPlace} (h : DataW.trod enc Try.prog w base spare held fuel 23 cs = some x) : ∃ (a : Option Addr) (cap : Nat) (ps : List Le), cs = [.slice a ps.length cap] ∧ Efs w a cap ps ∧ (a = none → cap = 0) := by
  have hM : maxLen = 9223372036854775807 := by decide
  have hC : Try.prog.cellsOf 54 = 7 := by kernel_rfl
  rcases DataW.trod_slice Try.underlying23 h with ⟨e3, -⟩ | ⟨a, len, cap, elems, rest, n', hn', e3, hx3, hb, hl, hcm, hel0, hel1, -, -⟩
  · exact ⟨none, 0, [], e3, ⟨RowsIn.nil 7 w, by simp⟩, fun _ => rfl⟩
  · rcases Nat.eq_zero_or_pos len with rfl | hpos
    · exact ⟨some a, cap, [], e3, ⟨⟨Nat.zero_le _, by omega, .inl rfl⟩, by simp⟩, fun e => by cases e⟩
    have hel : ∀ i, i < len → ∃ q : Le, (∀ j, j < 7 → w.cell? ((a.add (i * 7)).add j) = q.cs[j]?) ∧ q.Ok w := by
      intro i hil
      have he := hel1 i hil
      rw [List.getElem?_eq_getElem (by omega)] at he
      obtain ⟨cs', hc, ht'⟩ := Option.bind_eq_some_iff.1 he
      rw [hC] at hc
      obtain ⟨_, hcl, hat⟩ := World.cells?_some hc
      obtain ⟨q, rfl, hq⟩ := open_ecells ht'
      exact ⟨q, fun j hj => hat j hj, hq⟩
    obtain ⟨b, off, spot⟩ := a
    have hspot : spot = none := by
      obtain ⟨q, c0, -⟩ := hel 0 hpos
      have h1 := c0 0 (by decide)
      have h2 : w.cell? (((⟨b, off, spot⟩ : Addr).add (0 * 7)).add 0) = some (.string ⟨q.key.toArray⟩) := h1.trans rfl
      simpa [Addr.add] using World.cell?_spot h2
    subst hspot
    have hadd : ∀ i j, ((⟨b, off, none⟩ : Addr).add (i * 7)).add j = ⟨b, off + i * 7 + j, none⟩ := fun i j => by rw [add_none, add_none]
    obtain ⟨ps, hll, hlp⟩ := list_of Le.zero (fun i q => (∀ j, j < 7 → w.cell? ⟨b, off + i * 7 + j, none⟩ = q.cs[j]?) ∧ q.Ok w) len (fun i hil => by
      obtain ⟨q, c0, hq⟩ := hel i hil
      exact ⟨q, fun j hj => by rw [← hadd]; exact c0 j hj, hq⟩)
    have hbl : b < w.heap.size := by
      have h1 := (hlp 0 hpos).1 0 (by decide)
      exact World.block_lt_of_cell? w _ (h1.trans rfl)
    refine ⟨some ⟨b, off, none⟩, cap, ps, by rw [hll]; exact e3, ⟨⟨by rw [List.length_map]; omega, by omega, .inr ⟨b, off, rfl, hbl, fun k hk j hj => ?_⟩⟩, fun q hq => ?_⟩, fun e => by cases e⟩
    · rw [List.length_map] at hk
      rw [(hlp k (by omega)).1 j hj, map_getD Le.cs ps Le.zero [] hk]
    · obtain ⟨i, hi, rfl⟩ := List.getElem_of_mem hq
      have := (hlp i (by omega)).2
      rwa [getD_eq hi] at this
end
end Go.Proofs.Ytkmdpmkjcfccnaa
namespace Go.Proofs.Ytkmdpmkjcfccnaa
open Go.RowKit Go.Shelf
set_option linter.unusedVariables false

theorem sameS_self (l : List Db.P) : Db.sameS l l = true := by
  unfold Db.sameS
  rw [decide_eq_true rfl, Bool.true_and, List.all_eq_true]
  intro i _
  unfold Db.sameAt
  rw [decide_eq_true rfl, It.same_self]
  rfl
theorem mayS_of {db : List Db.P} (h : Db.AscP db) (hg : ∀ p ∈ db, p.key.length ≤ 40 ∧ It.mayB p.it = true) : Db.mayS db = true := by
  unfold Db.mayS
  rw [List.all_eq_true]
  intro i hi
  have hi' : i < db.length := by simpa using hi
  have gd : ∀ (j : Nat) (hj : j < db.length), db.getD j Db.P.zero = db[j] := fun j hj => by simp [List.getD, hj]
  have hm := hg db[i] (List.getElem_mem hi')
  unfold Db.mayAt
  rw [gd i hi', decide_eq_true hm.1, hm.2]
  by_cases h0 : i = 0
  · simp [h0]
  · rw [gd (i - 1) (by omega), decide_eq_true (List.pairwise_iff_getElem.1 h (i - 1) i (by omega) hi' (by omega))]
    simp
theorem mayS_inv {db : List Db.P} (h : Db.mayS db = true) : Db.AscP db ∧ ∀ p ∈ db, p.key.length ≤ 40 ∧ It.mayB p.it = true := by
  unfold Db.mayS at h
  rw [List.all_eq_true] at h
  have gd : ∀ (j : Nat) (hj : j < db.length), db.getD j Db.P.zero = db[j] := fun j hj => by simp [List.getD, hj]
  have hat : ∀ i (hi : i < db.length), (db[i].key.length ≤ 40 ∧ It.mayB db[i].it = true) ∧ (i = 0 ∨ ∃ hj : i - 1 < db.length, db[i - 1].key < db[i].key) := fun i hi => by
    have h1 := h i (by simpa using hi)
    unfold Db.mayAt at h1
    rw [gd i hi] at h1
    simp only [Bool.and_eq_true, Bool.or_eq_true, decide_eq_true_eq, beq_iff_eq] at h1
    refine ⟨h1.1, h1.2.imp id fun h2 => ?_⟩
    rw [gd (i - 1) (by omega)] at h2
    exact ⟨by omega, h2⟩
  refine ⟨?_, fun p hp => ?_⟩
  · have step : ∀ d i (hi : i + d + 1 < db.length), db[i].key < db[i + d + 1].key := fun d => by
      induction d with
      | zero =>
        intro i hi
        rcases (hat (i + 0 + 1) hi).2 with h1 | ⟨_, h1⟩
        · omega
        · simpa using h1
      | succ d ih =>
        intro i hi
        rcases (hat (i + (d + 1) + 1) hi).2 with h1 | ⟨_, h1⟩
        · omega
        · have h2 := ih i (by omega)
          have e : i + (d + 1) + 1 - 1 = i + d + 1 := by omega
          simp only [e] at h1
          exact Db.lt_tr h2 h1
    refine List.pairwise_iff_getElem.2 fun i j hi hj hij => ?_
    obtain ⟨d, rfl⟩ : ∃ d, j = i + d + 1 := ⟨j - i - 1, by omega⟩
    exact step d i hj
  · obtain ⟨i, hi, rfl⟩ := List.getElem_of_mem hp
    exact (hat i hi).1
theorem sameI_any (p q : Li) (w : World) (hp : p.Ok w) (hq : q.Ok w) : Calls Try.prog 20 #[.agg #[.int .i64 p.k, .string ⟨p.s.toArray⟩, .slice p.aF p.fs.length p.cF, .slice p.aL p.ws.length p.cL, .int .i64 p.x], .agg #[.int .i64 q.k, .string ⟨q.s.toArray⟩, .slice q.aF q.fs.length q.cF, .slice q.aL q.ws.length q.cL, .int .i64 q.x]] w fun e W => e = .returned (.bool (It.sameB p.i q.i)) ∧ Below w.heap.size w W :=
  refSame_any p.k q.k p.x q.x p.s q.s p.aF q.aF p.cF q.cF p.fs q.fs p.aL q.aL p.cL q.cL p.ws q.ws w hp.2.1 hq.2.1 hp.2.2.1 hq.2.2.1
theorem got_eq {o o' : Option Li} (h : o'.map Li.i = o.map Li.i) : (o'.getD Li.zero).i = (o.getD Li.zero).i ∧ o'.isSome = o.isSome := by
  cases o <;> cases o' <;> simp at h ⊢
  exact h
theorem getL_ok {w : World} {ps : List Lp} (h : ∀ p ∈ ps, p.Ok w) (key : List UInt8) (now : Int) : ((getL ps key now).getD Li.zero).Ok w := by
  unfold getL
  cases hf : rawL ps key with
  | none => exact Li.zero_ok w
  | some p =>
    have h1 := rawL_ok h key
    rw [hf] at h1
    rw [Option.filter_some]
    split
    · exact h1
    · exact Li.zero_ok w
theorem Gb.later {W W' : World} {B : Nat} {k : Int} {s : List UInt8} {aF : Option Addr} {nF cF : Nat} {aL : Option Addr} {nL cL : Nat} {x : Int} {b : Bool} (h : Gb W B k s aF nF cF aL nL cL x b) (hb : Below W.heap.size W W') : Gb W' B k s aF nF cF aL nL cL x b := (hb.block _ h.lt).trans h
theorem gd_small {ps : List Lp} (h : ∀ p ∈ ps, p.p.Sm) : ∀ p ∈ ps, p.it.fs.length ≤ 1000000 ∧ p.it.ws.length ≤ 1000000 := fun p hp => ⟨(h p hp).2.2.1, (h p hp).2.2.2.1⟩
end Go.Proofs.Ytkmdpmkjcfccnaa
