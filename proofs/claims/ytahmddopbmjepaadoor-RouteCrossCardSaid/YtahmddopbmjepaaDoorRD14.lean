/- What the rows of stage 14 list of package-level variables: the facts that the walks ask, and a world for the witness. The contract of strings.Cut at one byte. The contracts of the program's redirection, below and Read (14.2). -/
import Derived.Test.YtahmddopbmjepaaDoorRD13
import Derived.Test.YtahmddopbmjepaaDoorCards
import Derived.ProofKit
import Derived.Deep.DeepHandedRow
import Derived.Lib.LaidTab
import Derived.Stop.LaidErr
import Derived.Shelf.Vars
import Derived.Test.YtahmddopbmjepaaDoorRD04
import Derived.Test.YtahmddopbmjepaaDoorRD01
import Derived.WalkKit
import Derived.WalkLawsBesides
import Derived.WalkSpells
import Derived.Lib.Hide
import Derived.Outline
import Derived.Below
import Derived.Deep.QuietTactic
import Derived.BigQuiet
import Derived.Lib.IndexBytes
import Derived.Test.YtahmddopbmjepaaDoorRD07
import Derived.Lib.AtoiErrMem
import Derived.Lib.AppendIntMem
namespace Go.Proofs.YtahmddopbmjepaaDoor
open Go.ChangeShapes Go.WideShapes Go.ChangeAt Go.RowKit Go.Shelf

/-- Go's own table and errors lie as its text lays them. -/
structure Env (w : World) : Prop where
  size : 4 ≤ w.heap.size
  tab : Lib.TabIs Tryd.prog w "internal/strconv.uint64pow10" .u64 Lib.pow10Tab
  syn : ∃ te pe, w.cell? ⟨1, 0, none⟩ = some (.iface te pe)
  rng : ∃ te pe, w.cell? ⟨2, 0, none⟩ = some (.iface te pe)

theorem globalTab : Tryd.prog.globalNamed "internal/strconv.uint64pow10" = some 3 := by kernel_rfl

theorem tabIs_kept {w w' : World} (h : Lib.TabIs Tryd.prog w "internal/strconv.uint64pow10" .u64 Lib.pow10Tab) (hk : w'.heap[3]? = w.heap[3]?) : Lib.TabIs Tryd.prog w' "internal/strconv.uint64pow10" .u64 Lib.pow10Tab := by
  unfold Lib.TabIs World.var? at h ⊢
  simp only [globalTab, Option.bind_some] at h ⊢
  rw [hk]
  exact h

theorem Env.kept {w w' : World} (h : Env w) (hs : w.heap.size ≤ w'.heap.size) (hk : ∀ k, k < 4 → w'.heap[k]? = w.heap[k]?) : Env w' where
  size := Nat.le_trans h.size hs
  tab := tabIs_kept h.tab (hk _ (by decide))
  syn := by
    obtain ⟨te, pe, e⟩ := h.syn
    exact ⟨te, pe, (World.cell?_of_block (w := w) (a := ⟨1, 0, none⟩) (hk _ (by decide))).trans e⟩
  rng := by
    obtain ⟨te, pe, e⟩ := h.rng
    exact ⟨te, pe, (World.cell?_of_block (w := w) (a := ⟨2, 0, none⟩) (hk _ (by decide))).trans e⟩

theorem Env.later {w w' : World} (h : Env w) (hb : Below w.heap.size w w') : Env w' :=
  h.kept hb.size fun k hlt => hb.block k (by have := h.size; omega)
theorem Env.below {n : Nat} {w w' : World} (h : Env w) (hb : Below n w w') (hn : 4 ≤ n) : Env w' :=
  h.kept hb.size fun k hlt => hb.block k (by omega)

theorem lw_type : (Tryd.prog.globals[3]?).map (·.type) = some 158 := by kernel_rfl
theorem lw_cells : Tryd.prog.cellsOf 158 = 20 := by kernel_rfl
theorem lw_cell : Tryd.prog.cellsOf 104 = 1 := by kernel_rfl
theorem rowE (u : TypeId) (h : Tryd.prog.typeName? 3 u = some "*errors.errorString") : u = 164 :=
  typeName_ptr_named (nm := "errors.errorString") (by kernel_rfl) (by kernel_rfl) (by decide) u h

def laidL : List (String × DataW Unit) := [("math/bits.deBruijn32tab", Rows.laid_math_bits_deBruijn32tab), ("math/bits.deBruijn64tab", Rows.laid_math_bits_deBruijn64tab), ("internal/strconv.uint64pow10", Rows.laid_internal_strconv_uint64pow10), ("strconv.ErrRange", Rows.laid_strconv_ErrRange), ("strconv.ErrSyntax", Rows.laid_strconv_ErrSyntax)]
theorem laidL_eq : Rows.routeReadsRow.laid = laidL := rfl

set_option linter.unusedVariables false in
theorem env_of_laid {W : World} (h : laidMetH Tryd.prog Rows.routeReadsRow.laid W) (hs : W.ShapedOpen Tryd.prog) : Env W := by
  have h1 : laidMet Tryd.prog laidL W := h
  unfold laidL at h1
  have htab : Lib.TabIs Tryd.prog W "internal/strconv.uint64pow10" .u64 Lib.pow10Tab := Lib.tabIs_of_head globalTab lw_type Tryd.underlying158 Tryd.underlying104 lw_cell lw_cells (laidMet.tail (laidMet.tail h1))
  have hrng := laid_sentinel (g := 2) (laidMet.tail (laidMet.tail (laidMet.tail h1))) (by kernel_rfl) (by kernel_rfl) Tryd.underlying113 rowE Tryd.underlying164 Tryd.underlying166 rfl rfl Tryd.underlying9 (by kernel_rfl) (by kernel_rfl)
  have hsyn := laid_sentinel (g := 1) (laidMet.tail (laidMet.tail (laidMet.tail (laidMet.tail h1)))) (by kernel_rfl) (by kernel_rfl) Tryd.underlying113 rowE Tryd.underlying164 Tryd.underlying166 rfl rfl Tryd.underlying9 (by kernel_rfl) (by kernel_rfl)
  refine { size := ?_, tab := htab, syn := ?_, rng := ?_ }
  · have h := htab
    unfold Lib.TabIs World.var? at h
    simp only [globalTab, Option.bind_some] at h
    rcases Nat.lt_or_ge 3 W.heap.size with h' | h'
    · omega
    · rw [Array.getElem?_eq_none h'] at h; simp at h
  · obtain ⟨a, s, hv, _⟩ := hsyn
    exact ⟨_, _, World.var?_cell (g := 1) (by kernel_rfl) hv 0⟩
  · obtain ⟨a, s, hv, _⟩ := hrng
    exact ⟨_, _, World.var?_cell (g := 2) (by kernel_rfl) hv 0⟩

/-- The numbers of a listed datum, in their order. -/
def flatNums : List (DataW Unit) → List Value
  | [] => []
  | .lit (.int k n) :: r => .int k n :: flatNums r
  | .agg [.lit (.int k n), .lit (.int k' n')] :: r => .int k n :: .int k' n' :: flatNums r
  | _ :: r => flatNums r
def putNums (d : DataW Unit) : Obj → Obj
  | .cells _ t z => match d with
    | .agg l => .cells (flatNums l).toArray t z
    | _ => .cells #[] t z
  | o => o
def putErr (k : Nat) : Obj → Obj
  | .cells _ t z => .cells #[.iface 164 (.pointer (some ⟨k, 0, none⟩))] t z
  | o => o
noncomputable def low : Nat := (World.holding Tryd.prog default ⟨#[], #[], []⟩).heap.size
noncomputable def laidWorld (os : Os) : World :=
  let w0 := World.holding Tryd.prog os ⟨#[.cells #[.string ⟨#[118, 97, 108, 117, 101, 32, 111, 117, 116, 32, 111, 102, 32, 114, 97, 110, 103, 101]⟩] 166, .cells #[.string ⟨#[105, 110, 118, 97, 108, 105, 100, 32, 115, 121, 110, 116, 97, 120]⟩] 166], #[], []⟩
  { w0 with heap := ((((w0.heap.modify 3 (putNums Rows.laid_internal_strconv_uint64pow10)).modify 4 (putNums Rows.laid_math_bits_deBruijn32tab)).modify 5 (putNums Rows.laid_math_bits_deBruijn64tab)).modify 2 (putErr low)).modify 1 (putErr (low + 1)) }

theorem laid_met (os : Os) (args : Array Value) : laidMet Tryd.prog Rows.routeReadsRow.laid ((laidWorld os).forCall (fun _ _ => 0) ⟨#[], args, []⟩).memory :=
  laidMet_of_run' 8 (by kernel_rfl) (by kernel_rfl)
end Go.Proofs.YtahmddopbmjepaaDoor
namespace Go.Proofs.YtahmddopbmjepaaDoor
open Go.RowKit

theorem slcut_none (s : ByteArray) (c : UInt8) (w : World) (h : Tags.split c s.data.toList = none) :
    Calls Tryd.prog 53 #[.string s, .string ⟨#[c]⟩] w fun e w' => e = .returned (.tuple #[.string s, .string ⟨#[]⟩, .bool false]) ∧ w = w' := by
  have hi := (Tags.split_none h).2
  have HI := Lib.hid hi
  clear hi h
  go_enter Tryd.func53, Tryd.ntmps53
  go_wp2_with fail
  refine (Tryd.stringslite_Index_one s c _).mono ?_
  rintro e w' ⟨rfl, rfl⟩
  rw [HI.out]
  go_wp2
  go_ret3
  exact ⟨rfl, rfl⟩

theorem slcut_some (s : ByteArray) (c : UInt8) (a b : List UInt8) (w : World) (hs : s.size ≤ maxLen) (h : Tags.split c s.data.toList = some (a, b)) :
    Calls Tryd.prog 53 #[.string s, .string ⟨#[c]⟩] w fun e w' => e = .returned (.tuple #[.string ⟨a.toArray⟩, .string ⟨b.toArray⟩, .bool true]) ∧ Below w.heap.size w w' := by
  obtain ⟨h1, _, hi⟩ := Tags.split_some h
  have hlen : a.length + 1 + b.length = s.size := by
    have := congrArg List.length h1
    simp at this
    rw [this]; omega
  have HL := Lib.hid hlen
  have h2 : a.length < s.size := by omega
  have h3 : a.length + 1 ≤ s.size := by omega
  have HI := Lib.hid hi
  have H1 := Lib.hid h1
  clear hi h h1 hlen
  unfold maxLen at hs
  go_enter Tryd.func53, Tryd.ntmps53
  go_wp2_with fail
  refine (Tryd.stringslite_Index_one s c _).mono ?_
  rintro e w' ⟨rfl, rfl⟩
  rw [HI.out]
  go_wp2
  go_quiet (fail)
  go_wp2
  go_ret3
  refine ⟨?_, below_drewN (Below.refl _ _) _⟩
  have e1 : (s.extract 0 a.length) = ⟨a.toArray⟩ := str_eq (by
    rw [Lib.extract_data, H1.out]; simp)
  have e2 : (s.extract (a.length + 1) s.size) = ⟨b.toArray⟩ := str_eq (by
    rw [Lib.extract_data, H1.out]
    have : s.size = a.length + 1 + b.length := HL.out.symm
    simp [this])
  rw [e1, e2]
  rfl

theorem cut_none (s : ByteArray) (c : UInt8) (w : World) (h : Tags.split c s.data.toList = none) :
    Calls Tryd.prog 33 #[.string s, .string ⟨#[c]⟩] w fun e w' => e = .returned (.tuple #[.string s, .string ⟨#[]⟩, .bool false]) ∧ w = w' := by
  go_enter Tryd.func33, Tryd.ntmps33
  go_wp2_with fail
  refine (slcut_none s c _ h).mono ?_
  rintro e w' ⟨rfl, rfl⟩
  go_wp2
  go_ret3
  exact ⟨rfl, rfl⟩

theorem cut_some (s : ByteArray) (c : UInt8) (a b : List UInt8) (w : World) (hs : s.size ≤ maxLen) (h : Tags.split c s.data.toList = some (a, b)) :
    Calls Tryd.prog 33 #[.string s, .string ⟨#[c]⟩] w fun e w' => e = .returned (.tuple #[.string ⟨a.toArray⟩, .string ⟨b.toArray⟩, .bool true]) ∧ Below w.heap.size w w' := by
  go_enter Tryd.func33, Tryd.ntmps33
  go_wp2_with fail
  refine (slcut_some s c a b _ hs h).mono ?_
  rintro e w' ⟨rfl, hb⟩
  have HB := Lib.hid hb
  clear hb
  go_wp2
  go_ret3
  exact ⟨rfl, HB.out⟩


end Go.Proofs.YtahmddopbmjepaaDoor
namespace Go.Proofs.YtahmddopbmjepaaDoor
open Go.RowKit Go.Shelf
attribute [local go_sem] Oper.semAt_some

theorem digs_dec : ∀ u : Nat, Dig.digs u = Lib.decDigits u := by
  intro u
  induction u using Nat.strongRecOn with
  | ind u ih =>
    rw [Dig.digs, Lib.decDigits]
    by_cases h : u < 10
    · rw [if_pos h, dif_pos h]
    · rw [if_neg h, dif_neg h, ih _ (by omega)]
theorem itoa_dec (n : Int) : Lib.itoa n = Dig.dec n := by
  unfold Lib.itoa Dig.dec
  split
  · rw [digs_dec, show n.natAbs = (-n).toNat by omega]
  · rw [digs_dec]
theorem itoa_any (n : Int) (h0 : -9223372036854775808 ≤ n) (h1 : n ≤ 9223372036854775807) (w : World) (ht : Env w) :
    Calls Tryd.prog 52 #[.int .i64 n] w fun e w' => e = .returned (.string ⟨(Dig.dec n).toArray⟩) ∧ Below w.heap.size w w' := by
  refine (Tryd.strconv_Itoa n h0 h1 w ht.tab).mono ?_
  rintro e w' ⟨rfl, k4, os4, rfl⟩
  exact ⟨by rw [itoa_dec], Lib.below_grow w.heap.size w (Nat.le_refl _) k4 os4⟩

theorem dec_len (n : Int) (h0 : -9223372036854775808 ≤ n) (h1 : n ≤ 9223372036854775807) : (Dig.dec n).length ≤ 20 := by
  unfold Dig.dec
  split
  · have := Dig.digs_len20 (u := (-n).toNat) (by omega)
    simp; omega
  · have := Dig.digs_len20 (u := n.toNat) (by omega)
    omega

set_option maxRecDepth 100000 in
set_option maxHeartbeats 2000000 in
theorem redir_any (W : List UInt8) (s n : Int) (w : World) (hE : Env w) (hW : W.length ≤ 100) (s0 : -9223372036854775808 ≤ s) (s1 : s ≤ 9223372036854775807) (n0 : -9223372036854775808 ≤ n) (n1 : n ≤ 9223372036854775807) :
    Calls Tryd.prog 29 #[.string ⟨W.toArray⟩, .int .i64 s, .int .i64 n] w fun e w' => e = .returned (.string ⟨(Rt.redir W s n).toArray⟩) ∧ Below w.heap.size w w' := by
  obtain ⟨S, hS⟩ : ∃ S, Dig.dec s = S := ⟨_, rfl⟩
  obtain ⟨N, hN⟩ : ∃ N, Dig.dec n = N := ⟨_, rfl⟩
  have lS := dec_len s s0 s1
  have lN := dec_len n n0 n1
  have HE := Lib.hid hE
  have H1 : Hid (∀ w1, Below w.heap.size w w1 → Calls Tryd.prog 52 #[.int .i64 s] w1 fun e w' => e = .returned (.string ⟨S.toArray⟩) ∧ Below w1.heap.size w1 w') := Lib.hid fun w1 hb => by rw [← hS]; exact itoa_any s s0 s1 w1 (hE.later hb)
  have H2 : Hid (∀ w1, Below w.heap.size w w1 → Calls Tryd.prog 52 #[.int .i64 n] w1 fun e w' => e = .returned (.string ⟨N.toArray⟩) ∧ Below w1.heap.size w1 w') := Lib.hid fun w1 hb => by rw [← hN]; exact itoa_any n n0 n1 w1 (hE.later hb)
  have HR : Hid (Rt.redir W s n = W ++ 32 :: (S ++ 32 :: N)) := Lib.hid (by unfold Rt.redir; rw [hS, hN])
  rw [hS] at lS
  rw [hN] at lN
  have HB := Lib.hid (Below.refl w.heap.size w)
  clear hS hN hE s0 s1 n0 n1
  go_enter Tryd.func29, Tryd.ntmps29
  go_wp2_with fail
  refine (H1.out _ HB.out).mono ?_
  rintro e w1 ⟨rfl, hb⟩
  have HB1 := Lib.hid (HB.out.trans (hb.mono HB.out.size))
  clear hb
  go_wp2_with fail
  refine (H2.out _ HB1.out).mono ?_
  rintro e w2 ⟨rfl, hb⟩
  have HB2 := Lib.hid (HB1.out.trans (hb.mono HB1.out.size))
  clear hb
  go_wp2
  go_ret
  refine ⟨?_, HB2.out⟩
  rw [HR.out]
  have e1 : (⟨W.toArray⟩ : ByteArray) ++ ⟨#[32]⟩ ++ ⟨S.toArray⟩ ++ ⟨#[32]⟩ ++ ⟨N.toArray⟩ = ⟨(W ++ 32 :: (S ++ 32 :: N)).toArray⟩ := by
    apply ByteArray.ext; simp
  rw [e1]
  rfl

set_option maxRecDepth 100000 in
set_option maxHeartbeats 2000000 in
theorem below_any (x : List UInt8) (bound : Nat) (w : World) (hE : Env w) (hx : x.length ≤ 1000000) (hb : 0 < bound) (hb2 : bound ≤ 1000000) :
    Calls Tryd.prog 34 #[.string ⟨x.toArray⟩, .int .i64 bound] w fun e w' => ∃ n : Nat, Rt.Low x bound n ∧ e = .returned (.int .i64 n) ∧ Below w.heap.size w w' := by
  have hsz : (⟨x.toArray⟩ : ByteArray).size = x.length := by simp [ByteArray.size]
  have HB := Lib.hid (Below.refl w.heap.size w)
  have hno : (∀ v, Lib.atoiAll x ≠ .ok v) → Rt.Low x bound 0 := fun h => ⟨hb, fun a ha e => by
    rw [e] at h
    exact (h _ (Rt.atoi_dec (by omega))).elim⟩
  cases hat : Lib.atoiAll x with
  | ok v =>
    have hA := Tryd.strconv_Atoi_ok ⟨x.toArray⟩ (by rw [hsz]; omega) v (by simpa using hat)
    have HA : Hid (∀ W, Calls Tryd.prog 54 #[.string ⟨x.toArray⟩] W fun e w3 => e = .returned (.tuple #[.int .i64 v, .nilIface]) ∧ Below W.heap.size W w3) := Lib.hid fun W => (hA W).mono fun e w3 ⟨he, hb3⟩ => ⟨he, by
      rcases hb3 with rfl | ⟨t, rfl⟩
      · exact Below.refl _ _
      · exact Lib.bytesWorld_below W _ t⟩
    have HL : Hid (0 ≤ v → v < (bound : Int) → Rt.Low x bound v.toNat) := Lib.hid fun h1 h2 => ⟨by omega, fun a ha e => by
      rw [e, Rt.atoi_dec (by omega)] at hat
      injection hat with hat
      omega⟩
    have HN : Hid ((v < 0 ∨ (bound : Int) ≤ v) → Rt.Low x bound 0) := Lib.hid fun h => ⟨hb, fun a ha e => by
      rw [e, Rt.atoi_dec (by omega)] at hat
      injection hat with hat
      omega⟩
    clear hA hat hno hE
    have hbI : (bound : Int) ≤ 1000000 := by omega
    go_enter Tryd.func34, Tryd.ntmps34
    go_wp2_with fail
    refine (HA.out _).mono ?_
    rintro e w1 ⟨rfl, hb1⟩
    have HB1 := Lib.hid hb1
    clear hb1
    by_cases c1 : v < 0
    · have HZ := Lib.hid (HN.out (.inl c1))
      go_wp2
      go_ret
      exact ⟨0, HZ.out, rfl, HB1.out⟩
    · by_cases c2 : (bound : Int) ≤ v
      · have HZ := Lib.hid (HN.out (.inr c2))
        go_wp2
        go_ret
        exact ⟨0, HZ.out, rfl, HB1.out⟩
      · have HZ := Lib.hid (HL.out (by omega) (by omega))
        go_wp2
        go_ret
        exact ⟨v.toNat, HZ.out, by rw [Int.toNat_of_nonneg (by omega)]; rfl, HB1.out⟩
  | «syntax» =>
    obtain ⟨te, pe, hev⟩ := hE.syn
    have HA := Lib.hid (Tryd.strconv_Atoi_syntax ⟨x.toArray⟩ (by rw [hsz]; omega) (by simpa using hat) _ w hev (.inr ⟨_, _, rfl⟩))
    have HZ := Lib.hid (hno (fun v h => by rw [h] at hat; cases hat))
    clear hat hno hE hev
    go_enter Tryd.func34, Tryd.ntmps34
    go_wp2_with fail
    refine (HA.out).mono ?_
    rintro e w1 ⟨N, rfl, -, -, hb1⟩
    have HB1 := Lib.hid hb1
    clear hb1
    go_wp2
    go_ret
    exact ⟨0, HZ.out, rfl, HB1.out⟩
  | range =>
    obtain ⟨te, pe, hev⟩ := hE.rng
    have HA := Lib.hid (Tryd.strconv_Atoi_range ⟨x.toArray⟩ (by rw [hsz]; omega) (by simpa using hat) _ w hev (.inr ⟨_, _, rfl⟩))
    have HZ := Lib.hid (hno (fun v h => by rw [h] at hat; cases hat))
    obtain ⟨sat, hsat⟩ : ∃ sat, Lib.atoiSat x = sat := ⟨_, rfl⟩
    have HA2 : Hid (Calls Tryd.prog 54 #[.string ⟨x.toArray⟩] w fun e w3 => ∃ te pe, e = .returned (.tuple #[.int .i64 sat, .iface te pe]) ∧ Below w.heap.size w w3) := Lib.hid (HA.out.mono fun e w3 ⟨N, he, _, _, hb3⟩ => ⟨139, .pointer (some ⟨N, 0, none⟩), by rw [he, ← hsat], hb3⟩)
    have hs2 := Lib.atoiSat_bounds x
    rw [hsat] at hs2
    clear hat hno hE hev HA hsat
    go_enter Tryd.func34, Tryd.ntmps34
    go_wp2_with fail
    refine (HA2.out).mono ?_
    rintro e w1 ⟨te, pe, rfl, hb1⟩
    have HB1 := Lib.hid hb1
    clear hb1
    go_wp2
    go_ret
    exact ⟨0, HZ.out, rfl, HB1.out⟩
end Go.Proofs.YtahmddopbmjepaaDoor
