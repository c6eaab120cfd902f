/- The contracts of the reference's HGet, HDel, HNames, HVals. -/
import Derived.Test.YtfbfejeccfoioaaHsRefSet
import Derived.Test.YtfbfejeccfoioaaHsPlain
import Derived.Test.YtfbfejeccfoioaaHsWithout
import Derived.BigQuiet
namespace Go.Proofs.Ytfbfejeccfoioaa
open Go.RowKit Go.Shelf
set_option linter.unusedVariables false
set_option linter.unusedSimpArgs false

set_option maxRecDepth 100000 in
set_option maxHeartbeats 4000000 in
theorem hdel_any (aF : Option Addr) (cF : Nat) (fs : List (List UInt8 × List UInt8)) (n : List UInt8) (w : World) (hF : Fds w aF cF fs) (hl : fs.length ≤ 1000) :
    Calls Try.prog 14 #[.slice aF fs.length cF, .string ⟨n.toArray⟩] w fun e W => ∃ u, e = .returned u ∧ RowF w u (Hs.del fs n) W := by
  obtain ⟨iF, hiF, hiF0, hiF1, hiF2⟩ := info_parts infoF
  have HF := Lib.hid hF
  have hnI : (fs.length : Int) ≤ 1000 := by omega
  clear hF
  go_enter Try.func14, Try.ntmps14
  go_wp2
  go_loopw [5, 6] (fun u i wr => ∃ q : Nat, q ≤ fs.length ∧ i = .int .i64 q ∧ Hid (RowF w u (Hs.del (fs.take q) n) wr)) (fun _ i _ => fs.length - (intOf i).toNat)
  case atStart => exact ⟨0, Nat.zero_le _, rfl, Lib.hid (RowF.none (Below.refl _ _))⟩
  case round =>
    obtain ⟨q, hq, rfl, HQ⟩ := hrel
    have hzr := HQ.out.2.size
    by_cases hlt : q < fs.length
    · obtain ⟨bF, oF, rfl, hbF, hcF⟩ := HF.out.get (by omega)
      have y0 := (HQ.out.2.cell (p := ⟨bF, oF + q * 2, none⟩) hbF).trans (hcF q hlt).1
      have y1 := (HQ.out.2.cell (p := ⟨bF, oF + q * 2 + 1, none⟩) hbF).trans (hcF q hlt).2
      have hnx : fs.take (q + 1) = fs.take q ++ [fs.getD q ([], [])] := take_succ_getD (d := ([], [])) hlt
      have hlo : (Hs.del (fs.take q) n).length ≤ 1000 := by
        have h1 := Hs.del_le (fs.take q) n
        have h2 := List.length_take_le q fs
        omega
      obtain ⟨s1, hs1⟩ : ∃ s1, (fs.getD q ([], [])).1 = s1 := ⟨_, rfl⟩
      obtain ⟨s2, hs2⟩ : ∃ s2, (fs.getD q ([], [])).2 = s2 := ⟨_, rfl⟩
      have hsp : fs.getD q ([], []) = (s1, s2) := by rw [← hs1, ← hs2]
      rw [hs1] at y0
      rw [hs2] at y1
      rw [hsp] at hnx
      have HNX := Lib.hid hnx
      have k0 : (0 : Int) ≤ (q : Int) := by omega
      have k1 : (q : Int) < (fs.length : Int) := by omega
      clear hcF hnx hs1 hs2 hsp
      by_cases he : s1 = n
      · have hne : (s1 == n) = true := by simp [he]
        have HD := Lib.hid (show Hs.del (fs.take (q + 1)) n = Hs.del (fs.take q) n by rw [HNX.out]; exact del_snoc_eq he)
        clear he
        go_wp2_with fail
        go_roundw
        case rel => exact ⟨q + 1, by omega, by go_num, by rw [HD.out]; exact HQ⟩
        case measure => simp [intOf]; omega
      · have hne : (s1 == n) = false := by simp [he]
        have HD := Lib.hid (show Hs.del (fs.take (q + 1)) n = Hs.del (fs.take q) n ++ [(s1, s2)] by rw [HNX.out]; exact del_snoc_ne he)
        clear he
        generalize Hs.del (fs.take q) n = out at HQ hlo HD
        go_wp2_with (at_builtin; refine wpList_append_own _ rfl (.tmp 20) (.tmp 25) 22 rfl w.heap.size 42 iF _ 2 32 Try.underlying22 hiF hiF0 hiF1 hiF2 rfl (by decide) _ _ _ rfl (HQ.out.1.alloc _) ⟨wr.heap.size, 0, none⟩ 1 1 [.string ⟨s1.toArray⟩, .string ⟨s2.toArray⟩] rfl rfl (two_newsH _ _ _ _) (by simp [Value.oneCell']) (by unfold maxLen; omega) (by omega) (by simp; omega) ?_; intro v1 w1 hown hgrow _; have HR1 := Lib.hid (HQ.out.append hown hgrow); have hzw1 := HR1.out.2.size; clear hown hgrow)
        go_roundw
        case rel => exact ⟨q + 1, by omega, by go_num, by rw [HD.out]; exact HR1⟩
        case measure => simp [intOf]; omega
    · obtain rfl : q = fs.length := by omega
      rw [List.take_length] at HQ
      go_wp2_with fail
      go_ret
      exact ⟨_, rfl, HQ.out⟩

set_option maxRecDepth 100000 in
set_option maxHeartbeats 4000000 in
theorem hnames_any (aF : Option Addr) (cF : Nat) (fs : List (List UInt8 × List UInt8)) (w : World) (hF : Fds w aF cF fs) (hl : fs.length ≤ 1000) :
    Calls Try.prog 17 #[.slice aF fs.length cF] w fun e W => ∃ u, e = .returned u ∧ RowW w u (fs.map (·.1)) W := by
  obtain ⟨iF, hiF, hiF0, hiF1, hiF2⟩ := info_parts info9
  have HF := Lib.hid hF
  have hnI : (fs.length : Int) ≤ 1000 := by omega
  clear hF
  go_enter Try.func17, Try.ntmps17
  go_wp2
  go_loopw [3, 4] (fun u i wr => ∃ q : Nat, q ≤ fs.length ∧ i = .int .i64 q ∧ Hid (RowW w u ((fs.take q).map (·.1)) wr)) (fun _ i _ => fs.length - (intOf i).toNat)
  case atStart => exact ⟨0, Nat.zero_le _, rfl, Lib.hid (RowW.none (Below.refl _ _))⟩
  case round =>
    obtain ⟨q, hq, rfl, HQ⟩ := hrel
    have hzr := HQ.out.2.size
    by_cases hlt : q < fs.length
    · obtain ⟨bF, oF, rfl, hbF, hcF⟩ := HF.out.get (by omega)
      have y0 := (HQ.out.2.cell (p := ⟨bF, oF + q * 2, none⟩) hbF).trans (hcF q hlt).1
      have HNX : Hid ((fs.take (q + 1)).map (·.1) = (fs.take q).map (·.1) ++ [(fs.getD q ([], [])).1]) := Lib.hid (by rw [take_succ_getD (d := ([], [])) hlt]; simp)
      have hlo : ((fs.take q).map (·.1)).length ≤ 1000 := by
        have h2 := List.length_take_le q fs
        rw [List.length_map]
        omega
      generalize (fs.getD q ([], [])).1 = s1 at y0 HNX
      have k0 : (0 : Int) ≤ (q : Int) := by omega
      have k1 : (q : Int) < (fs.length : Int) := by omega
      clear hcF
      generalize (fs.take q).map (·.1) = out at HQ hlo HNX
      go_wp2_with (at_builtin; refine wpList_append_own _ rfl (.tmp 11) (.tmp 17) 34 rfl w.heap.size 9 iF _ 1 16 Try.underlying34 hiF hiF0 hiF1 hiF2 rfl (by decide) _ _ _ rfl (HQ.out.1.alloc _) ⟨wr.heap.size, 0, none⟩ 1 1 [.string ⟨s1.toArray⟩] rfl rfl (one_news _ _ rfl _ _) (by simp [Value.oneCell']) (by unfold maxLen; omega) (by omega) (by simp; omega) ?_; intro v1 w1 hown hgrow _; have HR1 := Lib.hid (HQ.out.append hown hgrow); have hzw1 := HR1.out.2.size; clear hown hgrow)
      go_roundw
      case rel => exact ⟨q + 1, by omega, by go_num, by rw [HNX.out]; exact HR1⟩
      case measure => simp [intOf]; omega
    · obtain rfl : q = fs.length := by omega
      rw [List.take_length] at HQ
      go_wp2_with fail
      go_ret
      exact ⟨_, rfl, HQ.out⟩

set_option maxRecDepth 100000 in
set_option maxHeartbeats 4000000 in
theorem hvals_any (aF : Option Addr) (cF : Nat) (fs : List (List UInt8 × List UInt8)) (w : World) (hF : Fds w aF cF fs) (hl : fs.length ≤ 1000) :
    Calls Try.prog 19 #[.slice aF fs.length cF] w fun e W => ∃ u, e = .returned u ∧ RowW w u (fs.map (·.2)) W := by
  obtain ⟨iF, hiF, hiF0, hiF1, hiF2⟩ := info_parts info9
  have HF := Lib.hid hF
  have hnI : (fs.length : Int) ≤ 1000 := by omega
  clear hF
  go_enter Try.func19, Try.ntmps19
  go_wp2
  go_loopw [3, 4] (fun u i wr => ∃ q : Nat, q ≤ fs.length ∧ i = .int .i64 q ∧ Hid (RowW w u ((fs.take q).map (·.2)) wr)) (fun _ i _ => fs.length - (intOf i).toNat)
  case atStart => exact ⟨0, Nat.zero_le _, rfl, Lib.hid (RowW.none (Below.refl _ _))⟩
  case round =>
    obtain ⟨q, hq, rfl, HQ⟩ := hrel
    have hzr := HQ.out.2.size
    by_cases hlt : q < fs.length
    · obtain ⟨bF, oF, rfl, hbF, hcF⟩ := HF.out.get (by omega)
      have y0 := (HQ.out.2.cell (p := ⟨bF, oF + q * 2 + 1, none⟩) hbF).trans (hcF q hlt).2
      have HNX : Hid ((fs.take (q + 1)).map (·.2) = (fs.take q).map (·.2) ++ [(fs.getD q ([], [])).2]) := Lib.hid (by rw [take_succ_getD (d := ([], [])) hlt]; simp)
      have hlo : ((fs.take q).map (·.2)).length ≤ 1000 := by
        have h2 := List.length_take_le q fs
        rw [List.length_map]
        omega
      generalize (fs.getD q ([], [])).2 = s1 at y0 HNX
      have k0 : (0 : Int) ≤ (q : Int) := by omega
      have k1 : (q : Int) < (fs.length : Int) := by omega
      clear hcF
      generalize (fs.take q).map (·.2) = out at HQ hlo HNX
      go_wp2_with (at_builtin; refine wpList_append_own _ rfl (.tmp 11) (.tmp 17) 34 rfl w.heap.size 9 iF _ 1 16 Try.underlying34 hiF hiF0 hiF1 hiF2 rfl (by decide) _ _ _ rfl (HQ.out.1.alloc _) ⟨wr.heap.size, 0, none⟩ 1 1 [.string ⟨s1.toArray⟩] rfl rfl (one_news _ _ rfl _ _) (by simp [Value.oneCell']) (by unfold maxLen; omega) (by omega) (by simp; omega) ?_; intro v1 w1 hown hgrow _; have HR1 := Lib.hid (HQ.out.append hown hgrow); have hzw1 := HR1.out.2.size; clear hown hgrow)
      go_roundw
      case rel => exact ⟨q + 1, by omega, by go_num, by rw [HNX.out]; exact HR1⟩
      case measure => simp [intOf]; omega
    · obtain rfl : q = fs.length := by omega
      rw [List.take_length] at HQ
      go_wp2_with fail
      go_ret
      exact ⟨_, rfl, HQ.out⟩

/-- two cells in a block. -/
def Box2 (w : World) (B : Nat) (T : TypeId) (x y : Value) : Prop := w.heap[B]? = some (.cells #[x, y] T (0, 0))
theorem Box2.new (w : World) (T : TypeId) (x y : Value) : Box2 (w.alloc (.cells #[x, y] T)) w.heap.size T x y := World.alloc_heap_new w _
theorem Box2.at {w : World} {B : Nat} {T : TypeId} {x y : Value} (h : Box2 w B T x y) : w.cell? ⟨B, 0, none⟩ = some x ∧ w.cell? ⟨B, 1, none⟩ = some y ∧ w.frozen? ⟨B, 0, none⟩ = false ∧ w.frozen? ⟨B, 1, none⟩ = false := by
  unfold Box2 at h
  refine ⟨?_, ?_, ?_, ?_⟩ <;> simp [World.cell?, World.frozen?, h]
theorem Box2.later {w w' : World} {B : Nat} {T : TypeId} {x y : Value} (h : Box2 w B T x y) (hb : Below w.heap.size w w') : Box2 w' B T x y := (hb.block B (Array.getElem?_eq_some_iff.1 h).1).trans h
theorem Box2.store {w : World} {B : Nat} {T : TypeId} {x y : Value} (h : Box2 w B T x y) (x' y' : Value) : Box2 ((w.setCell ⟨B, 0, none⟩ x').setCell ⟨B, 1, none⟩ y') B T x' y' := by
  unfold Box2 at h ⊢
  simp [World.setCell, Array.getElem?_modify, h]
theorem loadSaid {w : World} {B : Nat} {s : List UInt8} {b : Bool} (h : Box2 w B 28 (.string ⟨s.toArray⟩) (.bool b)) : (loadVar 28 ⟨B, 0, none⟩).run Try.prog w = .ok (.agg #[.string ⟨s.toArray⟩, .bool b]) w := by
  obtain ⟨h0, h1, _, _⟩ := h.at
  simp [loadVar, go_sem, h0, h1]

namespace Hs
/-- what Get tells. -/
def getP (l : List Mk.F) (n : K) : K × Bool := match get l n with | some v => (v, true) | none => ([], false)
theorem get_snoc (l : List Mk.F) (x : Mk.F) (n : K) : get (l ++ [x]) n = (get l n).or (if x.1 = n then some x.2 else none) := by
  induction l with
  | nil => simp [get]
  | cons y l ih =>
    simp only [List.cons_append, get, ih]
    split <;> simp
theorem get_app (l m : List Mk.F) (n : K) (v : K) (h : get l n = some v) : get (l ++ m) n = some v := by
  induction l with
  | nil => simp [get] at h
  | cons y l ih =>
    simp only [List.cons_append, get] at h ⊢
    split
    · rename_i e; rw [if_pos e] at h; exact h
    · rename_i e; rw [if_neg e] at h; exact ih h
theorem get_prefix {p l : List Mk.F} {n v : K} (h : p <+: l) (hp : get p n = some v) : get l n = some v := by
  obtain ⟨m, rfl⟩ := h
  exact get_app p m n v hp
theorem get_mem {l : List Mk.F} {n v : K} (h : get l n = some v) : (n, v) ∈ l := by
  induction l with
  | nil => simp [get] at h
  | cons y l ih =>
    simp only [get] at h
    split at h
    · rename_i e
      injection h with h
      subst e h
      exact List.mem_cons_self
    · exact List.mem_cons_of_mem _ (ih h)
end Hs

set_option maxRecDepth 100000 in
set_option maxHeartbeats 4000000 in
theorem hget_any (aF : Option Addr) (cF : Nat) (fs : List (List UInt8 × List UInt8)) (n : List UInt8) (w : World) (hF : Fds w aF cF fs) (hl : fs.length ≤ 1000) :
    Calls Try.prog 9 #[.slice aF fs.length cF, .string ⟨n.toArray⟩] w fun e W => e = .returned (.agg #[.string ⟨(Hs.getP fs n).1.toArray⟩, .bool (Hs.getP fs n).2]) ∧ Below w.heap.size w W := by
  obtain ⟨W1, hW1⟩ : ∃ W1, w.alloc (.cells #[.string ⟨#[]⟩, .bool false] 28) = W1 := ⟨_, rfl⟩
  have hz : Box2 W1 w.heap.size 28 (.string ⟨#[]⟩) (.bool false) := by rw [← hW1]; exact Box2.new w _ _ _
  have hb1 : Below w.heap.size w W1 := by rw [← hW1]; exact (Below.refl _ w).alloc (Nat.le_refl _) _
  have hzl := (Array.getElem?_eq_some_iff.1 hz).1
  obtain ⟨z0, z1, g0, g1⟩ := hz.at
  have HF := Lib.hid (hF.later hb1)
  have HW1 := Lib.hid hW1
  have HZ := Lib.hid hz
  have HB1 := Lib.hid hb1
  have hnI : (fs.length : Int) ≤ 1000 := by omega
  clear hF hW1 hz hb1
  go_enter Try.func9, Try.ntmps9
  go_upto_region 1 with (fail)
  rw [show w.alloc (.cells #[.string ⟨#[]⟩, .bool false] 28) = W1 from HW1.out]
  clear HW1
  go_wp2
  go_loopw [5] (fun i wr => ∃ q : Nat, q ≤ fs.length ∧ i = .int .i64 q ∧ Hid (Hs.get (fs.take q) n = none) ∧ wr = W1) (fun i _ => fs.length - (intOf i).toNat)
  case atStart => exact ⟨0, Nat.zero_le _, rfl, Lib.hid rfl, rfl⟩
  case round =>
    obtain ⟨q, hq, rfl, HQ, rfl⟩ := hrel
    by_cases hlt : q < fs.length
    · obtain ⟨bF, oF, rfl, hbF, hcF⟩ := HF.out.get (by omega)
      have y0 := (hcF q hlt).1
      have y1 := (hcF q hlt).2
      have hnx : Hs.get (fs.take (q + 1)) n = if (fs.getD q ([], [])).1 = n then some (fs.getD q ([], [])).2 else none := by
        rw [take_succ_getD (d := ([], [])) hlt, Hs.get_snoc, HQ.out]
        rfl
      have HNX := Lib.hid hnx
      have k0 : (0 : Int) ≤ (q : Int) := by omega
      have k1 : (q : Int) < (fs.length : Int) := by omega
      clear hcF hnx
      generalize (fs.getD q ([], [])).1 = s1 at y0 HNX
      generalize (fs.getD q ([], [])).2 = s2 at y1 HNX
      by_cases he : s1 = n
      · have hne : (s1 == n) = true := by simp [he]
        have HR := Lib.hid (show Hs.getP fs n = (s2, true) by
          unfold Hs.getP
          rw [Hs.get_prefix (List.take_prefix (q + 1) fs) (v := s2) (by rw [HNX.out, if_pos he])])
        have HST := Lib.hid (HZ.out.store (.string ⟨s2.toArray⟩) (.bool true))
        clear he
        go_wp2_with fail
        obtain ⟨we, hwe⟩ : ∃ we, (wr.setCell ⟨w.heap.size, 0, none⟩ (.string ⟨s2.toArray⟩)).setCell ⟨w.heap.size, 1, none⟩ (.bool true) = we := ⟨_, rfl⟩
        have hbz : Box2 we w.heap.size 28 (.string ⟨s2.toArray⟩) (.bool true) := hwe ▸ HST.out
        have hbl : Below w.heap.size w we := by rw [← hwe]; exact (HB1.out.setCell (p := ⟨w.heap.size, 0, none⟩) (Nat.le_refl _) _).setCell (p := ⟨w.heap.size, 1, none⟩) (Nat.le_refl _) _
        show bodyPost _ _ _ .ret _ ((wr.setCell ⟨w.heap.size, 0, none⟩ (.string ⟨s2.toArray⟩)).setCell ⟨w.heap.size, 1, none⟩ (.bool true))
        rw [hwe]
        exact bodyPost_ret (results_cell rfl rfl (loadSaid hbz)) rfl ⟨by rw [HR.out], hbl⟩
      · have hne : (s1 == n) = false := by simp [he]
        have HR := Lib.hid (show Hs.get (fs.take (q + 1)) n = none by rw [HNX.out, if_neg he])
        clear he
        go_wp2_with fail
        go_roundw
        case rel => exact ⟨q + 1, by omega, by go_num, HR, by first | rfl | trivial⟩
        case measure => simp [intOf]; omega
    · obtain rfl : q = fs.length := by omega
      have HR := Lib.hid (show Hs.getP fs n = ([], false) by
        have := HQ.out
        rw [List.take_length] at this
        unfold Hs.getP
        rw [this])
      have HST := Lib.hid (HZ.out.store (.string ⟨#[]⟩) (.bool false))
      go_wp2_with fail
      obtain ⟨we, hwe⟩ : ∃ we, (wr.setCell ⟨w.heap.size, 0, none⟩ (.string ⟨#[]⟩)).setCell ⟨w.heap.size, 1, none⟩ (.bool false) = we := ⟨_, rfl⟩
      have hbz : Box2 we w.heap.size 28 (.string ⟨([] : List UInt8).toArray⟩) (.bool false) := hwe ▸ HST.out
      have hbl : Below w.heap.size w we := by rw [← hwe]; exact (HB1.out.setCell (p := ⟨w.heap.size, 0, none⟩) (Nat.le_refl _) _).setCell (p := ⟨w.heap.size, 1, none⟩) (Nat.le_refl _) _
      show bodyPost _ _ _ .ret _ ((wr.setCell ⟨w.heap.size, 0, none⟩ (.string ⟨#[]⟩)).setCell ⟨w.heap.size, 1, none⟩ (.bool false))
      rw [hwe]
      exact bodyPost_ret (results_cell rfl rfl (loadSaid hbz)) rfl ⟨by rw [HR.out], hbl⟩
end Go.Proofs.Ytfbfejeccfoioaa
