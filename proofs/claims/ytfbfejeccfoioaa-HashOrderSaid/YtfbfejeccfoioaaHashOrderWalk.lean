/- The walk of HashOrder: fields set in either order; a field set twice. -/
import Derived.Test.YtfbfejeccfoioaaHsOpen
import Derived.Test.YtfbfejeccfoioaaHsOrdPlain
import Derived.Test.YtfbfejeccfoioaaDig
namespace Go.Proofs.Ytfbfejeccfoioaa
open Go.RowKit Go.Shelf
set_option linter.unusedVariables false
set_option linter.unusedSimpArgs false

theorem nm_str (b : UInt8) (y : Int) (h : (b.toNat : Int) = y) : [UInt8.ofNat (97 + y % 10).toNat] = Hs.nm b := by
  unfold Hs.nm
  rw [← h, show (97 + (b.toNat : Int) % 10).toNat = 97 + b.toNat % 10 by omega]
theorem take_snoc8 {r : List UInt8} {q : Nat} (h : q < r.length) : r.take (q + 1) = r.take q ++ [r.getD q 0] := take_succ_getD h
theorem rev_getD {r : List UInt8} {q : Nat} (h : q < r.length) : r.reverse.getD q 0 = r.getD (r.length - 1 - q) 0 := by
  rw [getD_eq (by simpa using h), getD_eq (by omega)]
  simp
/-- fields, as a slice. -/
def FsV (u : Value) (l : List Fd) (W : World) : Prop := ∃ a c, u = .slice a l.length c ∧ Fds W a c l
theorem FsV.later {u : Value} {l : List Fd} {W W' : World} (h : FsV u l W) (hb : Below W.heap.size W W') : FsV u l W' := by
  obtain ⟨a, c, h1, h2⟩ := h
  exact ⟨a, c, h1, h2.later hb⟩
theorem RowF.fsv {w W : World} {u : Value} {xs : List Fd} (h : RowF w u xs W) (hok : ∀ x ∈ xs, OkF x) : FsV u xs W := h.fds hok
/-- Set of fields that may be. -/
theorem set_v {u : Value} {l : List Fd} {n v : List UInt8} {W : World} (h : FsV u l W) (hl : l.length ≤ 1000) (hok : ∀ x ∈ l, OkF x) (hnv : OkF (n, v)) :
    Calls Try.prog 11 #[u, .string ⟨n.toArray⟩, .string ⟨v.toArray⟩] W fun e W' => ∃ u', e = .returned u' ∧ FsV u' (Hs.set l n v) W' ∧ Below W.heap.size W W' := by
  obtain ⟨a, c, rfl, hf⟩ := h
  refine (callsIn_wide.1 (set_any a c l n v W hf hl hok hnv)).mono ?_
  rintro e W' ⟨u', rfl, hr⟩
  exact ⟨u', rfl, hr.fsv (ok_set hok hnv), hr.2⟩
theorem get_v {u : Value} {l : List Fd} {n : List UInt8} {W : World} (h : FsV u l W) (hl : l.length ≤ 1000) (hok : ∀ x ∈ l, OkF x) :
    Calls Try.prog 8 #[u, .string ⟨n.toArray⟩] W fun e W' => e = .returned (.tuple #[.string ⟨(Hs.getP l n).1.toArray⟩, .bool (Hs.getP l n).2]) ∧ Below W.heap.size W W' := by
  obtain ⟨a, c, rfl, hf⟩ := h
  exact callsIn_wide.1 (get_any a c l n W hf hl hok)
theorem same_v {u u' : Value} {l m : List Fd} {W : World} (h : FsV u l W) (k : FsV u' m W) :
    Calls Try.prog 10 #[u, u'] W fun e W' => e = .returned (.bool (decide (l = m))) ∧ Below W.heap.size W W' := by
  obtain ⟨a, c, rfl, hf⟩ := h
  obtain ⟨b, d, rfl, hg⟩ := k
  exact sameF_any a b c d l m W hf hg

set_option maxRecDepth 100000 in
set_option maxHeartbeats 8000000 in
theorem hashOrder_walk (p : Option Addr) (cap : Nat) (ns : List UInt8) (a b : List UInt8) (w : World) (hP : Bytes w p ns) (hl : ns.length ≤ 9223372036854775807) (hal : a.length ≤ 9223372036854775807) (hbl : b.length ≤ 9223372036854775807) :
    Calls Try.prog 5 #[.slice p ns.length cap, .string ⟨a.toArray⟩, .string ⟨b.toArray⟩] w fun e W => e = .returned (.bool true) ∧ Below w.heap.size w W := by
  have hawk : ∀ W, Below w.heap.size w W → Calls Try.prog 7 #[] W fun e W' => e = .returned (.bool true) ∧ Below w.heap.size w W' := fun W h => (awake_any W).mono fun e W' ⟨he, hb⟩ => ⟨he, h.trans (hb.mono h.size)⟩
  have HAW := Lib.hid hawk
  have HP := Lib.hid hP
  have hlI : (ns.length : Int) ≤ 9223372036854775807 := by omega
  clear hawk hP
  go_enter Try.func5, Try.ntmps5
  by_cases hok : ns.length ≤ 30 ∧ a.length ≤ 60 ∧ b.length ≤ 60
  rotate_left
  · by_cases h1 : ns.length ≤ 30
    · have d1 : ¬ (30 : Int) < (ns.length : Int) := by omega
      by_cases h2 : a.length ≤ 60
      · have d2 : ¬ (60 : Int) < (a.length : Int) := by omega
        have d3 : (60 : Int) < (b.length : Int) := by
          by_cases h3 : b.length ≤ 60
          · exact (hok ⟨h1, h2, h3⟩).elim
          · omega
        clear hok h1 h2
        go_wp2_with fail
        refine (HAW.out w (Below.refl _ _)).mono ?_
        rintro e w2 ⟨rfl, hb⟩
        have HB2 := Lib.hid hb
        clear hb
        go_wp2_with fail
        go_ret
        exact ⟨rfl, HB2.out⟩
      · have d2 : (60 : Int) < (a.length : Int) := by omega
        clear hok h1 h2
        go_wp2_with fail
        refine (HAW.out w (Below.refl _ _)).mono ?_
        rintro e w2 ⟨rfl, hb⟩
        have HB2 := Lib.hid hb
        clear hb
        go_wp2_with fail
        go_ret
        exact ⟨rfl, HB2.out⟩
    · have d1 : (30 : Int) < (ns.length : Int) := by omega
      clear hok h1
      go_wp2_with fail
      refine (HAW.out w (Below.refl _ _)).mono ?_
      rintro e w2 ⟨rfl, hb⟩
      have HB2 := Lib.hid hb
      clear hb
      go_wp2_with fail
      go_ret
      exact ⟨rfl, HB2.out⟩
  obtain ⟨hn3, ha6, hb6⟩ := hok
  have d1 : ¬ (30 : Int) < (ns.length : Int) := by omega
  have d2 : ¬ (60 : Int) < (a.length : Int) := by omega
  have d3 : ¬ (60 : Int) < (b.length : Int) := by omega
  have hnI : (ns.length : Int) ≤ 30 := by omega
  go_wp2_with fail
  go_loopw [7, 8, 9] (fun u1 u2 i wr => ∃ q : Nat, q ≤ ns.length ∧ i = .int .i64 q ∧ Hid (FsV u1 (Hs.ordL (ns.take q)) wr) ∧ Hid (FsV u2 (Hs.ordL (ns.reverse.take q)) wr) ∧ Hid (Below w.heap.size w wr)) (fun _ _ i _ => ns.length - (intOf i).toNat)
  case atStart => exact ⟨0, Nat.zero_le _, rfl, Lib.hid ⟨none, 0, rfl, fds_nil _⟩, Lib.hid ⟨none, 0, rfl, fds_nil _⟩, Lib.hid (Below.refl _ _)⟩
  case round =>
    obtain ⟨q, hq, rfl, HX, HY, HB⟩ := hrel
    by_cases hlt : q < ns.length
    · obtain ⟨bP, oP, rfl, hc⟩ : ∃ b off, p = some ⟨b, off, none⟩ ∧ ∀ k, k < ns.length → w.cell? ⟨b, off + k, none⟩ = some (.int .u8 ((ns.getD k 0).toNat : Int)) := by
        rcases HP.out with h | h
        · rw [h] at hlt; simp at hlt
        · exact h
      have hbP := World.block_lt_of_cell? w _ (hc q hlt)
      have y0 := (HB.out.cell (p := ⟨bP, oP + q, none⟩) hbP).trans (hc q hlt)
      have y1 := (HB.out.cell (p := ⟨bP, oP + (ns.length - 1 - q), none⟩) hbP).trans (hc (ns.length - 1 - q) (by omega))
      have HCC := Lib.hid hc
      have HBP := Lib.hid hbP
      have HNX := Lib.hid (show Hs.ordL (ns.take (q + 1)) = Hs.set (Hs.ordL (ns.take q)) (Hs.nm (ns.getD q 0)) [118] by rw [take_snoc8 hlt, Hs.ordL_snoc])
      have HNY := Lib.hid (show Hs.ordL (ns.reverse.take (q + 1)) = Hs.set (Hs.ordL (ns.reverse.take q)) (Hs.nm (ns.getD (ns.length - 1 - q) 0)) [118] by rw [take_snoc8 (by simpa using hlt), Hs.ordL_snoc, rev_getD hlt])
      have hx1 : (Hs.ordL (ns.take q)).length ≤ 1000 := by
        have h1 := Hs.ordL_len (ns.take q)
        have h2 := List.length_take_le q ns
        omega
      have hx2 : (Hs.ordL (ns.reverse.take q)).length ≤ 1000 := by
        have h1 := Hs.ordL_len (ns.reverse.take q)
        have h2 := List.length_take_le q ns.reverse
        omega
      have HO1 := Lib.hid (Hs.ordL_ok (ns.take q))
      have HO2 := Lib.hid (Hs.ordL_ok (ns.reverse.take q))
      have HX1 := Lib.hid hx1
      have HX2 := Lib.hid hx2
      obtain ⟨y, hy⟩ : ∃ y : Int, ((ns.getD q 0).toNat : Int) = y := ⟨_, rfl⟩
      obtain ⟨z, hz⟩ : ∃ z : Int, ((ns.getD (ns.length - 1 - q) 0).toNat : Int) = z := ⟨_, rfl⟩
      have hyb : 0 ≤ y ∧ y ≤ 255 := by have := UInt8.toNat_lt (ns.getD q 0); omega
      have hzb : 0 ≤ z ∧ z ≤ 255 := by have := UInt8.toNat_lt (ns.getD (ns.length - 1 - q) 0); omega
      have HSY := Lib.hid (nm_str _ y hy)
      have HSZ := Lib.hid (nm_str _ z hz)
      rw [hy] at y0
      rw [hz] at y1
      obtain ⟨hy0, hy1⟩ := hyb
      obtain ⟨hz0, hz1⟩ := hzb
      have k0 : (0 : Int) ≤ (q : Int) := by omega
      have k1 : (q : Int) < (ns.length : Int) := by omega
      have e1 : IntKind.i64.wrap ((ns.length : Int) - 1) = ((ns.length - 1 : Nat) : Int) := by rw [IntWalk.i64_in _ (by omega)]; omega
      have e2 : IntKind.i64.wrap (((ns.length - 1 : Nat) : Int) - (q : Int)) = ((ns.length - 1 - q : Nat) : Int) := by rw [IntWalk.i64_in _ (by omega)]; omega
      have m1 : (ns.length - 1 - q) < ns.length := by omega
      have w1' : IntKind.u8.wrap (97 + y % 10) = 97 + y % 10 := by rw [IntKind.wrap_u8]; omega
      have w2' : IntKind.u8.wrap (97 + z % 10) = 97 + z % 10 := by rw [IntKind.wrap_u8]; omega
      have kc := conv1
      clear hy hz hc hx1 hx2 hbP
      go_wp2_with fail
      refine (set_v (n := [UInt8.ofNat (97 + y % 10).toNat]) (v := [118]) (HX.out.later ((Below.refl _ _).alloc (Nat.le_refl _) _)) HX1.out HO1.out ⟨by simp, by simp⟩).mono ?_
      rintro e wa ⟨ua, rfl, hfa, hba⟩
      rw [HSY.out, ← HNX.out] at hfa
      have HFA := Lib.hid hfa
      have hbw := ((Below.refl _ wr).alloc (Nat.le_refl _) (.cells #[.int .u8 (97 + y % 10)] 5)).trans (hba.mono (by simp))
      have HBW := Lib.hid hbw
      have HBA := Lib.hid (HB.out.trans (hbw.mono HB.out.size))
      replace y1 := (HBA.out.cell (p := ⟨bP, oP + (ns.length - 1 - q), none⟩) HBP.out).trans ((HB.out.cell (p := ⟨bP, oP + (ns.length - 1 - q), none⟩) HBP.out).symm.trans y1)
      clear hfa hba hbw y0
      go_wp2_with fail
      refine (set_v (n := [UInt8.ofNat (97 + z % 10).toNat]) (v := [118]) ((HY.out.later HBW.out).later ((Below.refl _ _).alloc (Nat.le_refl _) _)) HX2.out HO2.out ⟨by simp, by simp⟩).mono ?_
      rintro e wb ⟨ub, rfl, hfb, hbb⟩
      rw [HSZ.out, ← HNY.out] at hfb
      have HFB := Lib.hid hfb
      have hbw := ((Below.refl _ wa).alloc (Nat.le_refl _) (.cells #[.int .u8 (97 + z % 10)] 5)).trans (hbb.mono (by simp))
      have HBB := Lib.hid (HBA.out.trans (hbw.mono HBA.out.size))
      have HFA2 := Lib.hid (HFA.out.later hbw)
      clear hfb hbb hbw y1
      go_wp2_with fail
      go_roundw
      case rel => exact ⟨q + 1, by omega, by go_num, HFA2, HFB, HBB⟩
      case measure => simp [intOf]; omega
    · obtain rfl : q = ns.length := by omega
      have hX : Hid (FsV u7 (Hs.ordL ns) wr) := Lib.hid (by have := HX.out; rwa [List.take_length] at this)
      have hY : Hid (FsV u8 (Hs.ordL ns) wr) := Lib.hid (by
        have := HY.out
        rw [show ns.length = ns.reverse.length by simp, List.take_length, Hs.ordL_rev] at this
        exact this)
      have hXl := Hs.ordL_len ns
      have hXo := Hs.ordL_ok ns
      have hXu := Hs.ordL_up ns
      generalize Hs.ordL ns = X at hX hY hXl hXo hXu
      have oa1 : OkF (a, [49]) := ⟨by simp; omega, by simp⟩
      have oa0 : OkF (a, [48]) := ⟨by simp; omega, by simp⟩
      have oa3 : OkF (a, [51]) := ⟨by simp; omega, by simp⟩
      have ob2 : OkF (b, [50]) := ⟨by simp; omega, by simp⟩
      have l1 := Hs.set_le X a [49]
      have l2 := Hs.set_le X b [50]
      have l3 := Hs.set_le X a [48]
      have l4 := Hs.set_le (Hs.set X a [48]) a [51]
      have hsame := Hs.two_orders hXu a b [49] [50] (by decide)
      have hget := Hs.twice_get X a [48] [51]
      have hlen := Hs.twice_len hXu a [48] [51]
      have hlenI : ((Hs.set X a [51]).length : Int) = ((Hs.set (Hs.set X a [48]) a [51]).length : Int) := by rw [hlen]
      have HS1 := Lib.hid (fun W (h : Below wr.heap.size wr W) => set_v (n := a) (v := [49]) (hX.out.later h) (by omega) hXo oa1)
      have HS2 := Lib.hid (fun W u (h : FsV u (Hs.set X a [49]) W) => set_v (n := b) (v := [50]) h (by omega) (ok_set hXo oa1) ob2)
      have HS3 := Lib.hid (fun W (h : Below wr.heap.size wr W) => set_v (n := b) (v := [50]) (hY.out.later h) (by omega) hXo ob2)
      have HS4 := Lib.hid (fun W u (h : FsV u (Hs.set X b [50]) W) => set_v (n := a) (v := [49]) h (by omega) (ok_set hXo ob2) oa1)
      have HS5 := Lib.hid (fun W (h : Below wr.heap.size wr W) => set_v (n := a) (v := [48]) (hX.out.later h) (by omega) hXo oa0)
      have HS6 := Lib.hid (fun W u (h : FsV u (Hs.set X a [48]) W) => set_v (n := a) (v := [51]) h (by omega) (ok_set hXo oa0) oa3)
      have HS7 := Lib.hid (fun W u (h : FsV u (Hs.set (Hs.set X a [48]) a [51]) W) => get_v (n := a) h (by omega) (ok_set (ok_set hXo oa0) oa3))
      have HS8 := Lib.hid (fun W (h : Below wr.heap.size wr W) => same_v (hX.out.later h) (hY.out.later h))
      have HS9 := Lib.hid (fun W (h : Below wr.heap.size wr W) => set_v (n := a) (v := [51]) (hX.out.later h) (by omega) hXo oa3)
      have HSM := Lib.hid hsame
      have HGT := Lib.hid hget
      have HLN := Lib.hid hlenI
      obtain ⟨ab, hab⟩ : ∃ ab, (a == b) = ab := ⟨_, rfl⟩
      rw [hab] at HSM
      have hl9 : (Hs.set X a [51]).length ≤ 1000 := by rw [← hlen]; omega
      have hl8 : (Hs.set (Hs.set X a [48]) a [51]).length ≤ 1000 := by omega
      generalize hPL : Hs.set (Hs.set X a [49]) b [50] = PL at *
      generalize hQL : Hs.set (Hs.set X b [50]) a [49] = QL at *
      generalize hRL : Hs.set (Hs.set X a [48]) a [51] = RL at *
      generalize hSL : Hs.set X a [51] = SL at *
      clear hPL hQL hRL hSL hsame hget hlen hlenI oa1 oa0 oa3 ob2 l1 l2 l3 l4 hXo hXu hXl HX HY

      have HR := Lib.hid (Below.refl wr.heap.size wr)
      go_wp2_with fail
      refine (HS1.out wr HR.out).mono ?_
      rintro e v1 ⟨x1, rfl, hf, hb⟩
      have Ff1 := Lib.hid hf
      have R1 := Lib.hid (HR.out.trans (hb.mono HR.out.size))
      have D1 := Lib.hid hb
      clear hf hb
      go_wp2_with fail
      refine (HS2.out v1 _ Ff1.out).mono ?_
      rintro e v2 ⟨x2, rfl, hf, hb⟩
      have Ff2 := Lib.hid hf
      have R2 := Lib.hid (R1.out.trans (hb.mono R1.out.size))
      have D2 := Lib.hid hb
      clear hf hb
      go_wp2_with fail
      refine (HS3.out v2 R2.out).mono ?_
      rintro e v3 ⟨x3, rfl, hf, hb⟩
      have Ff3 := Lib.hid hf
      have R3 := Lib.hid (R2.out.trans (hb.mono R2.out.size))
      have D3 := Lib.hid hb
      clear hf hb
      go_wp2_with fail
      refine (HS4.out v3 _ Ff3.out).mono ?_
      rintro e v4 ⟨x4, rfl, hf, hb⟩
      have Ff4 := Lib.hid hf
      have R4 := Lib.hid (R3.out.trans (hb.mono R3.out.size))
      have D4 := Lib.hid hb
      clear hf hb
      go_wp2_with fail
      refine (HS5.out v4 R4.out).mono ?_
      rintro e v5 ⟨x5, rfl, hf, hb⟩
      have Ff5 := Lib.hid hf
      have R5 := Lib.hid (R4.out.trans (hb.mono R4.out.size))
      have D5 := Lib.hid hb
      clear hf hb
      go_wp2_with fail
      refine (HS6.out v5 _ Ff5.out).mono ?_
      rintro e v6 ⟨x6, rfl, hf, hb⟩
      have Ff6 := Lib.hid hf
      have R6 := Lib.hid (R5.out.trans (hb.mono R5.out.size))
      have D6 := Lib.hid hb
      clear hf hb
      go_wp2_with fail
      refine (HS7.out v6 _ Ff6.out).mono ?_
      rintro e v7 ⟨rfl, hb⟩
      have R7 := Lib.hid (R6.out.trans (hb.mono R6.out.size))
      have D7 := Lib.hid hb
      clear hb
      rw [HGT.out]
      go_wp2_with fail
      refine (HS8.out v7 R7.out).mono ?_
      rintro e v8 ⟨rfl, hb⟩
      have R8 := Lib.hid (R7.out.trans (hb.mono R7.out.size))
      have D8 := Lib.hid hb
      clear hb
      simp only [decide_true]
      go_wp2_with fail
      refine (same_v ((((((Ff2.out.later D3.out).later D4.out).later D5.out).later D6.out).later D7.out).later D8.out) ((((Ff4.out.later D5.out).later D6.out).later D7.out).later D8.out)).mono ?_
      rintro e v9 ⟨rfl, hb⟩
      have R9 := Lib.hid (R8.out.trans (hb.mono R8.out.size))
      have D9 := Lib.hid hb
      clear hb
      rw [HSM.out]
      have hfr := (((Ff6.out.later D7.out).later D8.out).later D9.out)
      obtain ⟨ar, cr, rfl, -⟩ := hfr
      cases ab
      all_goals
        go_wp2_with fail
        refine (HS9.out v9 R9.out).mono ?_
        rintro e v10 ⟨x10, rfl, hf, hb⟩
        obtain ⟨a10, c10, rfl, -⟩ := hf
        have R10 := Lib.hid (R9.out.trans (hb.mono R9.out.size))
        clear hb
        have hln := HLN.out
        go_wp2_with fail
        refine (HAW.out v10 (HB.out.trans (R10.out.mono HB.out.size))).mono ?_
        rintro e v11 ⟨rfl, hb⟩
        have R11 := Lib.hid hb
        clear hb
        go_wp2_with fail
        go_ret
        exact ⟨rfl, R11.out⟩
end Go.Proofs.Ytfbfejeccfoioaa
