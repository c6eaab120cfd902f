/- What the rows of stage 3 list of package-level variables: the facts that the walks ask, and a world for the witness. -/
import Derived.Test.YtbkhnnjjpelfcaaGreatDoorRpEnv
import Derived.Test.YtbkhnnjjpelfcaaGreatDoorCards
import Derived.ProofKit
import Derived.Deep.DeepHandedRow
import Derived.Lib.LaidTab
import Derived.Lib.LaidU8T
import Derived.Stop.LaidErr
import Derived.Shelf.Vars
namespace Go.Proofs.YtbkhnnjjpelfcaaGreatDoor
open Go.ChangeShapes Go.WideShapes Go.ChangeAt Go.RowKit Go.Shelf

theorem lw_tab : Tryz.prog.globalNamed "internal/strconv.uint64pow10" = some 1 := by kernel_rfl
theorem lw_type : (Tryz.prog.globals[1]?).map (·.type) = some 163 := by kernel_rfl
theorem lw_cells : Tryz.prog.cellsOf 163 = 20 := by kernel_rfl
theorem lw_cell : Tryz.prog.cellsOf 79 = 1 := by kernel_rfl

def ru8 : Ren := ⟨fun n => n, fun | 5 => 5 | 119 => 166 | 138 => 168 | 139 => 169 | n => n, fun | 3 => 2 | 4 => 3 | n => n⟩
theorem u8t : Go.Proofs.U8Types Tryz.prog ru8 where
  t5 := Tryz.underlying5
  t119 := Tryz.underlying166
  t138 := Tryz.underlying168
  t139 := Tryz.underlying169
theorem rowE (u : TypeId) (h : Tryz.prog.typeName? 3 u = some "*errors.errorString") : u = 184 :=
  typeName_ptr_named (nm := "errors.errorString") (by kernel_rfl) (by kernel_rfl) (by decide) u h

def laidL : List (String × DataW Unit) := [("math/bits.deBruijn32tab", Rows.laid_math_bits_deBruijn32tab), ("math/bits.deBruijn64tab", Rows.laid_math_bits_deBruijn64tab), ("internal/strconv.uint64pow10", Rows.laid_internal_strconv_uint64pow10), ("unicode/utf8.acceptRanges", Rows.laid_unicode_utf8_acceptRanges), ("strconv.ErrRange", Rows.laid_strconv_ErrRange), ("strconv.ErrSyntax", Rows.laid_strconv_ErrSyntax), ("unicode/utf8.first", Rows.laid_unicode_utf8_first)]
theorem laidL_eq : Rows.dumpAllRow.laid = laidL := rfl
theorem first_eq : Rows.laid_unicode_utf8_first = Lib.firstData := by kernel_rfl
theorem accept_eq : (Rows.laid_unicode_utf8_acceptRanges : DataW Unit) = Lib.acceptData := by kernel_rfl

theorem env_of_laid {W : World} (h : laidMetH Tryz.prog Rows.dumpAllRow.laid W) (hs : W.ShapedOpen Tryz.prog) : Env W := by
  have h1 : laidMet Tryz.prog laidL W := h
  unfold laidL at h1
  have htab : Lib.TabIs Tryz.prog W "internal/strconv.uint64pow10" .u64 Lib.pow10Tab := Lib.tabIs_of_head lw_tab lw_type Tryz.underlying163 Tryz.underlying79 lw_cell lw_cells (laidMet.tail (laidMet.tail h1))
  have hrng := laid_sentinel (g := 5) (laidMet.tail (laidMet.tail (laidMet.tail (laidMet.tail h1)))) (by kernel_rfl) (by kernel_rfl) Tryz.underlying113 rowE Tryz.underlying184 Tryz.underlying186 rfl rfl Tryz.underlying9 (by kernel_rfl) (by kernel_rfl)
  have hsyn := laid_sentinel (g := 4) (laidMet.tail (laidMet.tail (laidMet.tail (laidMet.tail (laidMet.tail h1))))) (by kernel_rfl) (by kernel_rfl) Tryz.underlying113 rowE Tryz.underlying184 Tryz.underlying186 rfl rfl Tryz.underlying9 (by kernel_rfl) (by kernel_rfl)
  have r3 := Lib.laidMet.reads h1 (n := "unicode/utf8.first") (d := Rows.laid_unicode_utf8_first) (by simp)
  have r4 := Lib.laidMet.reads h1 (n := "unicode/utf8.acceptRanges") (d := Rows.laid_unicode_utf8_acceptRanges) (by simp)
  have r7 := Lib.laidMet.reads h1 (n := "math/bits.deBruijn64tab") (d := Rows.laid_math_bits_deBruijn64tab) (by simp)
  rw [first_eq] at r3
  rw [accept_eq] at r4
  have hu := utf8Tabs_of_readsT (ρ := ru8) u8t ⟨by kernel_rfl, by kernel_rfl, by kernel_rfl, by kernel_rfl, by kernel_rfl, by kernel_rfl, by kernel_rfl⟩ r3 r4
  have hmx := cell_of_shapedOpen_int (g := 0) (t := 3) (zero := #[.int .i64 0]) (k := .i64) hs (by decide +kernel) (by kernel_rfl) rfl (by kernel_rfl) (by kernel_rfl) Tryz.underlying3
  refine { size := ?_, tab := htab, syn := ?_, rng := ?_, utf := hu, mx := hmx }
  · obtain ⟨g, t, cs, fuel, p, hg, hty, hvar, hd⟩ := r7
    have e : g = 7 := Option.some.inj (hg.symm.trans (by kernel_rfl))
    subst e
    have := World.var?_cell hg hvar 0
    unfold World.var? at hvar
    rw [hg] at hvar
    rcases Nat.lt_or_ge 7 W.heap.size with h' | h'
    · omega
    · simp [Array.getElem?_eq_none h'] at hvar
  · obtain ⟨a, s, hv, _⟩ := hsyn
    exact ⟨_, _, World.var?_cell (g := 4) (by kernel_rfl) hv 0⟩
  · obtain ⟨a, s, hv, _⟩ := hrng
    exact ⟨_, _, World.var?_cell (g := 5) (by kernel_rfl) hv 0⟩

/-- The numbers of a listed datum, in their order. -/
def flatNums : List (DataW Unit) → List Value
  | [] => []
  | .lit (.int k n) :: r => .int k n :: flatNums r
  | .agg [.lit (.int k n), .lit (.int k' n')] :: r => .int k n :: .int k' n' :: flatNums r
  | _ :: r => flatNums r
def putNums (d : DataW Unit) : Obj → Obj
  | .cells _ t z => match d with
    | .agg l => .cells (flatNums l).toArray t z
    | _ => .cells #[] t z
  | o => o
def putErr (k : Nat) : Obj → Obj
  | .cells _ t z => .cells #[.iface 184 (.pointer (some ⟨k, 0, none⟩))] t z
  | o => o
noncomputable def low : Nat := (World.holding Tryz.prog default ⟨#[], #[], []⟩).heap.size
noncomputable def laidWorld (os : Os) : World :=
  let w0 := World.holding Tryz.prog os ⟨#[.cells #[.string ⟨#[118, 97, 108, 117, 101, 32, 111, 117, 116, 32, 111, 102, 32, 114, 97, 110, 103, 101]⟩] 186, .cells #[.string ⟨#[105, 110, 118, 97, 108, 105, 100, 32, 115, 121, 110, 116, 97, 120]⟩] 186], #[], []⟩
  { w0 with heap := ((((((w0.heap.modify 1 (putNums Rows.laid_internal_strconv_uint64pow10)).modify 6 (putNums Rows.laid_math_bits_deBruijn32tab)).modify 7 (putNums Rows.laid_math_bits_deBruijn64tab)).modify 2 (putNums Rows.laid_unicode_utf8_first)).modify 3 (putNums Rows.laid_unicode_utf8_acceptRanges)).modify 5 (putErr low)).modify 4 (putErr (low + 1)) }

theorem laid_met (os : Os) (args : Array Value) : laidMet Tryz.prog Rows.dumpAllRow.laid ((laidWorld os).forCall (fun _ _ => 0) ⟨#[], args, []⟩).memory :=
  laidMet_of_run' 8 (by kernel_rfl) (by kernel_rfl)
end Go.Proofs.YtbkhnnjjpelfcaaGreatDoor
