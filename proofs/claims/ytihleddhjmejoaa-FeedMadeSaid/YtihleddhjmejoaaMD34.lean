/- The contracts of the law's Make and awake: a space by numbers (11). The slots of the law's keys, plainly (11). The contract of the reference's All (11.1). -/
import Derived.Test.YtihleddhjmejoaaMD26
import Derived.Test.YtihleddhjmejoaaMD25
import Derived.Test.YtihleddhjmejoaaMD29
import Derived.Test.YtihleddhjmejoaaMD33
import Derived.Test.YtihleddhjmejoaaMD05
import Derived.Test.YtihleddhjmejoaaMD06
namespace Go.Proofs.Ytihleddhjmejoaa
open Go.RowKit Go.Shelf
attribute [local go_sem] Oper.semAt_some
set_option linter.unusedVariables false
set_option linter.unusedSimpArgs false
theorem ApplyOut.db {qs : List Db.P} {w W : World} {e : Ending} (h : ApplyOut qs w e W) : DbOut qs w e W := by
  obtain ⟨v, out, rfl, hr, hm⟩ := h
  obtain ⟨a, cap, rfl, hp, hn⟩ := hr.prs
  exact ⟨a, cap, out, rfl, hp, hn, hm, hr.2.1⟩
theorem sps_any (a : Option Addr) (cap : Nat) (ps : List Lp) (b0 : Option Addr) (cb : Nat) (es : List Le) (w : World) (hP : Prs w a cap ps) (hE : Efs w b0 cb es) (hn : ps.length ≤ 100000) (hm : es.length ≤ 100000) (ha : a = none → cap = 0)
    (hu : AscL ps) (hsm : ∀ p ∈ ps, p.p.Sm) (hse : ∀ e ∈ es, e.e.Sm) :
    Calls Try.prog 31 #[.slice a ps.length cap, .slice b0 es.length cb] w (DbOut (Db.app (ps.map Lp.p) (es.map Le.e)) w) :=
  (spapply_any a cap ps b0 cb es w hP hE hn hm ha hu hsm hse).mono fun e W h => h.db
/-- the effect that sets "a" to the empty text. -/
def effA : Le := ⟨[97], false, ⟨1, [], none, [], 0, none, [], 0, 0⟩⟩
def slotA : Nat := slotOf [97]
theorem slotA_lt : slotA < 16384 := slotOf_lt _
theorem inA : inS (slotA : Int) [[97]] = [[97]] := by unfold inS slotA; simp
-- left out: refSlot_any
theorem efs_one {w : World} {b : Nat} {p : Le} (h : EAt w b 0 p) (hb : b < w.heap.size) (hok : p.Ok w) : Efs w (some ⟨b, 0, none⟩) 1 [p] := by
  refine ⟨⟨by simp, by decide, .inr ⟨b, 0, rfl, hb, fun k hk j hj => ?_⟩⟩, fun q hq => by rw [List.mem_singleton.1 hq]; exact hok⟩
  obtain rfl : k = 0 := by simp at hk; omega
  obtain ⟨h0, h1, h2, h3, h4, h5, h6⟩ := h
  simp only [Nat.zero_add] at h0 h1 h2 h3 h4 h5 h6
  match j, hj with
  | 0, _ => simpa [Le.cs, Li.cs] using h0
  | 1, _ => simpa [Le.cs, Li.cs] using h1
  | 2, _ => simpa [Le.cs, Li.cs] using h2
  | 3, _ => simpa [Le.cs, Li.cs] using h3
  | 4, _ => simpa [Le.cs, Li.cs] using h4
  | 5, _ => simpa [Le.cs, Li.cs] using h5
  | 6, _ => simpa [Le.cs, Li.cs] using h6

-- left out: awake_any
end Go.Proofs.Ytihleddhjmejoaa
namespace Go.Proofs.Ytihleddhjmejoaa
set_option linter.unusedVariables false

/-- the slot of the k-th key. -/
def sK (k : Nat) : Nat := slotOf (keyT (k : Int))
theorem tag_c (c : UInt8) (t : List UInt8) (h : c ≠ 125) (h2 : c ≠ 123) : Tags.tag (123 :: c :: 125 :: t) = [c] := by
  have h1 : Tags.split 125 (c :: 125 :: t) = some ([c], t) := by
    have := Tags.split_append (c := 125) (a := [c]) (b := t) (by simp [Ne.symm h])
    simpa using this
  unfold Tags.tag
  rw [show Tags.split 123 (123 :: c :: 125 :: t) = some ([], c :: 125 :: t) from by simpa using Tags.split_append (c := 123) (a := []) (b := c :: 125 :: t) (by simp)]
  simp [h1]
theorem tagK (y : Int) (h : 0 ≤ y) : Tags.tag (keyT y) = [UInt8.ofNat (97 + y % 4).toNat] := by
  have h4 : (97 + y % 4).toNat = 97 ∨ (97 + y % 4).toNat = 98 ∨ (97 + y % 4).toNat = 99 ∨ (97 + y % 4).toNat = 100 := by omega
  unfold keyT
  rcases h4 with h4 | h4 | h4 | h4 <;> rw [h4] <;> exact tag_c _ _ (by decide) (by decide)
theorem slot_keyT (y : Int) (h : 0 ≤ y) : slotOf (keyT y) = sK (y % 4).toNat := by
  unfold sK slotOf
  rw [tagK y h, tagK _ (by omega)]
  congr 4
  omega
theorem sK_vals : sK 0 = 15495 ∧ sK 1 = 3300 ∧ sK 2 = 7365 ∧ sK 3 = 11298 := by
  unfold sK slotOf
  rw [tagK _ (by omega), tagK _ (by omega), tagK _ (by omega), tagK _ (by omega)]
  decide
def cntU (ks : List (List UInt8)) : Nat → Nat
  | 0 => 0
  | k + 1 => cntU ks k + (inS (sK k : Int) ks).length
theorem cnt_sum : ∀ ks : List (List UInt8), (∀ k ∈ ks, ∃ y : Int, 0 ≤ y ∧ y ≤ 255 ∧ k = keyT y) → cntU ks 4 = ks.length
  | [], _ => rfl
  | k :: ks, h => by
    have ih := cnt_sum ks fun x hx => h x (List.mem_cons_of_mem _ hx)
    obtain ⟨y, h0, h1, rfl⟩ := h k (List.mem_cons_self ..)
    obtain ⟨v0, v1, v2, v3⟩ := sK_vals
    have hc : ∀ z : Nat, (inS (z : Int) (keyT y :: ks)).length = (inS (z : Int) ks).length + if sK (y % 4).toNat = z then 1 else 0 := fun z => by
      unfold inS
      rw [List.filter_cons, slot_keyT y h0]
      by_cases hz : sK (y % 4).toNat = z
      · have : ((sK (y % 4).toNat : Nat) : Int) = (z : Int) := by omega
        simp [hz]
      · have : ¬ ((sK (y % 4).toNat : Nat) : Int) = (z : Int) := by omega
        simp [hz, this]
    simp only [cntU, hc, List.length_cons] at ih ⊢
    have hy : (y % 4).toNat = 0 ∨ (y % 4).toNat = 1 ∨ (y % 4).toNat = 2 ∨ (y % 4).toNat = 3 := by omega
    generalize (inS (sK 0 : Int) ks).length = n0 at *
    generalize (inS (sK 1 : Int) ks).length = n1 at *
    generalize (inS (sK 2 : Int) ks).length = n2 at *
    generalize (inS (sK 3 : Int) ks).length = n3 at *
    rcases hy with hy | hy | hy | hy <;> rw [hy] <;> simp only [v0, v1, v2, v3] <;> simp <;> omega
theorem inS_mem {z : Int} {ks : List (List UInt8)} {k : List UInt8} (h : k ∈ inS z ks) : k ∈ ks ∧ (slotOf k : Int) = z := by
  unfold inS at h
  rw [List.mem_filter] at h
  exact ⟨h.1, of_decide_eq_true h.2⟩
theorem numDb_key (ns : List UInt8) : ∀ p ∈ numDb ns, ∃ y : Int, 0 ≤ y ∧ y ≤ 255 ∧ p.key = keyT y := fun p hp => by
  rcases app_mem asc_nil _ p hp with h1 | ⟨e, h1, h2, rfl⟩
  · cases h1
  · obtain ⟨i, rfl⟩ := numE_mem h1
    have := (ns.getD i 0).toNat_lt
    exact ⟨_, by omega, by omega, rfl⟩
theorem inS_asc {z : Int} {ks : List (List UInt8)} (h : ks.Pairwise fun x y => x < y) : (inS z ks).Pairwise fun x y => x < y := h.filter _
end Go.Proofs.Ytihleddhjmejoaa
namespace Go.Proofs.Ytihleddhjmejoaa
open Go.RowKit Go.Shelf
attribute [local go_sem] Oper.semAt_some
set_option linter.unusedVariables false
set_option linter.unusedSimpArgs false

/-- the effect that sets a pair. -/
def setE (p : Lp) : Le := ⟨p.key, false, p.it⟩
set_option maxRecDepth 100000 in
set_option maxHeartbeats 8000000 in
theorem all_any (a : Option Addr) (cap : Nat) (ps : List Lp) (w : World) (hP : Prs w a cap ps) (hn : ps.length ≤ 1000000) :
    Calls Try.prog 41 #[.slice a ps.length cap] w fun r W => ∃ u, r = .returned u ∧ RowE w u (ps.map setE) W := by
  obtain ⟨iE, hiE, hiE0, hiE1, hiE2⟩ := info_parts infoE
  have HP := Lib.hid hP
  have hnI : (ps.length : Int) ≤ 1000000 := by omega
  clear hP
  go_enter Try.func41, Try.ntmps41
  go_wp2
  go_loopw [3, 4] (fun u i wr => ∃ n : Nat, n ≤ ps.length ∧ i = .int .i64 n ∧ Hid (RowE w u ((ps.take n).map setE) wr)) (fun _ i _ => ps.length - (intOf i).toNat)
  case atStart => exact ⟨0, Nat.zero_le _, rfl, Lib.hid (RowE.none (Below.refl _ _))⟩
  case round =>
    obtain ⟨n, hn', rfl, HR⟩ := hrel
    have hol : ((ps.take n).map setE).length ≤ 1000000 := by
      have h2 := List.length_take_le n ps
      rw [List.length_map]
      omega
    have hzr := HR.out.2.1.size
    by_cases hlt : n < ps.length
    · obtain ⟨b, off, rfl, hb, hc⟩ := HP.out.get (by omega)
      have hq0 := (hc n hlt).later hb HR.out.2.1
      have hok := HP.out.at hlt
      have HX := Lib.hid (show (ps.take (n + 1)).map setE = (ps.take n).map setE ++ [setE (ps.getD n Lp.zero)] by rw [take_succ_getD (d := Lp.zero) hlt, List.map_append]; rfl)
      clear hc
      obtain ⟨⟨key, k, s, aF, fs, cF, aL, ws, cL, x⟩, hq⟩ : ∃ q, ps.getD n Lp.zero = q := ⟨_, rfl⟩
      obtain ⟨out, hout⟩ : ∃ out, (ps.take n).map setE = out := ⟨_, rfl⟩
      rw [hq] at hq0 HX hok
      rw [hout] at HX HR hol
      clear hq hout
      obtain ⟨q0, q1, q2, q3, q4, q5⟩ := hq0
      have HOK := Lib.hid hok
      clear hok
      have k0 : (0 : Int) ≤ (n : Int) := by omega
      have k1 : (n : Int) < (ps.length : Int) := by omega
      go_wp2
      have HS0 : Below w.heap.size wr wr.drew := (Below.refl w.heap.size wr).drew
      refine wp_region_L (S := fun W => Below w.heap.size wr W) (f := 15) (by kernel_rfl) ?_
      refine wpAnyL_take (i := 0) (some 11) (v := u3) rfl rfl (by kernel_rfl) (by kernel_rfl) (by kernel_rfl) (by kernel_rfl) (fun _ _ _ h => h) (by rfl) (fun W hS => ?_) HS0 ?_
      · go_simp
      try simp only [Act.put, List.setIfInBounds_toArray, List.set_cons_zero, List.set_cons_succ]
      refine wpAnyL_take (i := 1) (some 12) (v := .slice (some ⟨b, off, none⟩) ps.length cap) rfl rfl (by kernel_rfl) (by kernel_rfl) (by kernel_rfl) (by kernel_rfl) (fun _ _ _ h => h) (by rfl) (fun W hS => ?_) HS0 ?_
      · go_simp
      try simp only [Act.put, List.setIfInBounds_toArray, List.set_cons_zero, List.set_cons_succ]
      refine wpAnyL_take (i := 2) (some 13) (v := .int .i64 (n : Int)) rfl rfl (by kernel_rfl) (by kernel_rfl) (by kernel_rfl) (by kernel_rfl) (fun _ _ _ h => h) (by rfl) (fun W hS => ?_) HS0 ?_
      · go_simp
      try simp only [Act.put, List.setIfInBounds_toArray, List.set_cons_zero, List.set_cons_succ]
      refine wpAnyL_take (i := 3) (some 14) (v := .pointer (some ⟨b, off + n * 6, none⟩)) rfl rfl (by kernel_rfl) (by kernel_rfl) (by kernel_rfl) (by kernel_rfl) (fun _ _ _ h => h) (by rfl) (fun W hS => ?_) HS0 ?_
      · go_simp
      try simp only [Act.put, List.setIfInBounds_toArray, List.set_cons_zero, List.set_cons_succ]
      refine wpAnyL_take (i := 4) (some 15) (v := .pointer (some ⟨b, off + n * 6, none⟩)) rfl rfl (by kernel_rfl) (by kernel_rfl) (by kernel_rfl) (by kernel_rfl) (fun _ _ _ h => h) (by rfl) (fun W hS => ?_) HS0 ?_
      · go_simp
      try simp only [Act.put, List.setIfInBounds_toArray, List.set_cons_zero, List.set_cons_succ]
      refine wpAnyL_take (i := 5) (some 16) (v := .string ⟨key.toArray⟩) rfl rfl (by kernel_rfl) (by kernel_rfl) (by kernel_rfl) (by kernel_rfl) (fun _ _ _ h => h) (by rfl) (fun W hS => ?_) HS0 ?_
      · have m0 := (hS.cell (p := ⟨b, off + n * 6, none⟩) hb).trans q0
        go_simp
      try simp only [Act.put, List.setIfInBounds_toArray, List.set_cons_zero, List.set_cons_succ]
      refine wpAnyL_take (i := 6) (some 17) (v := .slice (some ⟨b, off, none⟩) ps.length cap) rfl rfl (by kernel_rfl) (by kernel_rfl) (by kernel_rfl) (by kernel_rfl) (fun _ _ _ h => h) (by rfl) (fun W hS => ?_) HS0 ?_
      · go_simp
      try simp only [Act.put, List.setIfInBounds_toArray, List.set_cons_zero, List.set_cons_succ]
      refine wpAnyL_take (i := 7) (some 18) (v := .int .i64 (n : Int)) rfl rfl (by kernel_rfl) (by kernel_rfl) (by kernel_rfl) (by kernel_rfl) (fun _ _ _ h => h) (by rfl) (fun W hS => ?_) HS0 ?_
      · go_simp
      try simp only [Act.put, List.setIfInBounds_toArray, List.set_cons_zero, List.set_cons_succ]
      refine wpAnyL_take (i := 8) (some 19) (v := .pointer (some ⟨b, off + n * 6, none⟩)) rfl rfl (by kernel_rfl) (by kernel_rfl) (by kernel_rfl) (by kernel_rfl) (fun _ _ _ h => h) (by rfl) (fun W hS => ?_) HS0 ?_
      · go_simp
      try simp only [Act.put, List.setIfInBounds_toArray, List.set_cons_zero, List.set_cons_succ]
      refine wpAnyL_take (i := 9) (some 20) (v := .pointer (some ⟨b, off + n * 6 + 1, none⟩)) rfl rfl (by kernel_rfl) (by kernel_rfl) (by kernel_rfl) (by kernel_rfl) (fun _ _ _ h => h) (by rfl) (fun W hS => ?_) HS0 ?_
      · go_simp
      try simp only [Act.put, List.setIfInBounds_toArray, List.set_cons_zero, List.set_cons_succ]
      refine wpAnyL_take (i := 10) (some 21) (v := .agg #[.int .i64 k, .string ⟨s.toArray⟩, .slice aF fs.length cF, .slice aL ws.length cL, .int .i64 x]) rfl rfl (by kernel_rfl) (by kernel_rfl) (by kernel_rfl) (by kernel_rfl) (fun _ _ _ h => h) (by rfl) (fun W hS => ?_) HS0 ?_
      · have m0 := (hS.cell (p := ⟨b, off + n * 6 + 1, none⟩) hb).trans q1
        have m1 := (hS.cell (p := ⟨b, off + n * 6 + 1 + 1, none⟩) hb).trans q2
        have m2 := (hS.cell (p := ⟨b, off + n * 6 + 1 + 2, none⟩) hb).trans q3
        have m3 := (hS.cell (p := ⟨b, off + n * 6 + 1 + 3, none⟩) hb).trans q4
        have m4 := (hS.cell (p := ⟨b, off + n * 6 + 1 + 4, none⟩) hb).trans q5
        go_simp
      try simp only [Act.put, List.setIfInBounds_toArray, List.set_cons_zero, List.set_cons_succ]
      refine wpAnyL_take (i := 11) (some 22) (v := .agg #[.string ⟨key.toArray⟩, .bool false, .int .i64 k, .string ⟨s.toArray⟩, .slice aF fs.length cF, .slice aL ws.length cL, .int .i64 x]) rfl rfl (by kernel_rfl) (by kernel_rfl) (by kernel_rfl) (by kernel_rfl) (fun _ _ _ h => h) (by rfl) (fun W hS => ?_) HS0 ?_
      · go_simp
      try simp only [Act.put, List.setIfInBounds_toArray, List.set_cons_zero, List.set_cons_succ]
      refine wpAnyL_one (j := 12) (by kernel_rfl) rfl (by rfl) (fun K hK => ?_)
      refine oper_wp_val (v := .slice (some ⟨wr.heap.size, 0, none⟩) 1 1) (w' := wr.drew.alloc (.cells #[.string ⟨key.toArray⟩, .bool false, .int .i64 k, .string ⟨s.toArray⟩, .slice aF fs.length cF, .slice aL ws.length cL, .int .i64 x] 61)) (by go_simp) ?_
      refine hK _ _ (fun _ => (Below.refl w.heap.size wr).drew.alloc hzr _) ?_
      clear hK K
      try simp only [Act.put, List.setIfInBounds_toArray, List.set_cons_zero, List.set_cons_succ]
      refine wpAnyL_one (j := 13) (by kernel_rfl) rfl (by rfl) (fun K hK => ?_)
      refine wp_append_own _ (.tmp 11) (.tmp 23) 24 rfl w.heap.size 61 iE _ 7 104 Try.underlying24 hiE hiE0 hiE1 hiE2 rfl (by decide) _ _ _ rfl (HR.out.drew.1.alloc _) ⟨wr.heap.size, 0, none⟩ 1 1 [.string ⟨key.toArray⟩, .bool false, .int .i64 k, .string ⟨s.toArray⟩, .slice aF fs.length cF, .slice aL ws.length cL, .int .i64 x] rfl rfl (row_news _ _ rfl _ _) (Le.cs_one ⟨key, false, k, s, aF, fs, cF, aL, ws, cL, x⟩) (by unfold maxLen; omega) (by omega) (by simp; omega) ?_
      intro v1 w1 hown hgrow _
      have HR1 := Lib.hid (RowE.append (e := ⟨key, false, k, s, aF, fs, cF, aL, ws, cL, x⟩) HR.out.drew hown hgrow HOK.out)
      have HS2 : Below w.heap.size wr w1 := by
        have hb1 := (Below.refl w.heap.size wr).drew.alloc hzr (.cells #[.string ⟨key.toArray⟩, .bool false, .int .i64 k, .string ⟨s.toArray⟩, .slice aF fs.length cF, .slice aL ws.length cL, .int .i64 x] 61)
        exact hb1.trans ((Keeps.of_grown (S := fun k => some k ≠ u3.ownBlock) hgrow fun r e h => h e.symm).below (Nat.le_trans hzr hb1.size) fun k hk e => by have := (HR.out.1.lt k e.symm).1; omega)
      refine hK _ _ (fun _ => HS2) ?_
      clear hK K hown hgrow
      try simp only [Act.put, List.setIfInBounds_toArray, List.set_cons_zero, List.set_cons_succ]
      refine wpAnyL_one (j := 14) (by kernel_rfl) rfl (by rfl) (fun K hK => ?_)
      go_simp
      refine hK _ _ (fun _ => HS2) ?_
      clear hK K
      try simp only [Act.put, List.setIfInBounds_toArray, List.set_cons_zero, List.set_cons_succ]
      refine wpAnyL_done (by kernel_rfl) ?_ _
      go_wp2
      go_roundw
      case rel => exact ⟨n + 1, by omega, by go_num, Lib.hid (by rw [HX.out]; exact HR1.out)⟩
      case measure => simp [intOf]; omega
    · obtain rfl : n = ps.length := by omega
      rw [List.take_length] at HR
      have k1 : ¬ (ps.length : Int) < (ps.length : Int) := by omega
      go_wp2
      go_ret
      exact ⟨_, rfl, HR.out⟩
end Go.Proofs.Ytihleddhjmejoaa
