/- For all items and every time the law ItemAll returns true: whether an item is valid, alive, its type, and whether two are the same, is what the reference says; a copy is the same. No condition. -/
import Derived.Test.YtdnonginlbjcoaaRows
import Derived.Test.YtdnonginlbjcoaaItemAllWalk
import Derived.Test.YtdnonginlbjcoaaItOpen
import Derived.ProofKit
import Derived.OpenShut
import Derived.ShutString
import Derived.SliceStrings
import Derived.ChangeOld
namespace Go.Proofs.Ytdnonginlbjcoaa.itemAll
open Go.ChangeShapes Go.WideShapes Go.ChangeAt Go.RowKit
open Go.ChangeMaps (open_string shut_string)
set_option linter.unusedVariables false

theorem own : ownKnob Try.prog.godebug = none := by kernel_rfl
theorem laidOut : laidOutB Try.prog = true := by kernel_rfl

theorem walk (ka xa : Int) (sa : List UInt8) (aF : Option Addr) (cF : Nat) (fa : List (List UInt8 × List UInt8)) (aL : Option Addr) (cL : Nat) (wa : List (List UInt8))
    (kb xb : Int) (sb : List UInt8) (bF : Option Addr) (dF : Nat) (fb : List (List UInt8 × List UInt8)) (bL : Option Addr) (dL : Nat) (wb : List (List UInt8)) (now : Int) (W : World)
    (h1 : Fds W aF cF fa) (h2 : Wds W aL cL wa) (h3 : sa.length ≤ 9223372036854775807) (h4 : Fds W bF dF fb) (h5 : Wds W bL dL wb) (h6 : sb.length ≤ 9223372036854775807) (h7 : (Lit.int .i64 now).wf = true) :
    Calls Try.prog 3 #[itv ka sa aF fa.length cF aL wa.length cL xa, itv kb sb bF fb.length dF bL wb.length dL xb, .int .i64 now] W fun e w' => e = .returned (.bool true) ∧ Below W.heap.size W w' :=
  itemAll_walk ka xa sa aF cF fa aL cL wa kb xb sb bF dF fb bL dL wb now W h1 h2 h3 h4 h5 h6

set_option maxRecDepth 100000 in
theorem lifted (os : Os) (started : os.Started) (H : Type) (enc : TypeId × Value → H) :
    ReturnsInHanded {} Try.checked os 3 .any (Rows.itemAllSpec.pre6 enc Try.prog Try.f3 Rows.itemAllRow.domain false) (Rows.itemAllSpec.post enc Try.prog Try.f3 false true false false) := by
  refine returnsInHanded_of_change (C := Try.checked) own started (by kernel_rfl) Try.func3
    (ChangeSpec.witness6 (enc := enc) (C := Try.checked) false ⟨#[], #[.agg #[.int .i64 0, .string ByteArray.empty, .slice none 0 0, .slice none 0 0, .int .i64 0], .agg #[.int .i64 0, .string ByteArray.empty, .slice none 0 0, .slice none 0 0, .int .i64 0], .int .i64 0], []⟩ 8 (by kernel_rfl) (by kernel_rfl) (by kernel_rfl) (by kernel_rfl)) ?_
  intro W base args ds gs before hval0 hW hcnd _
  have hval : ∀ (j : Nat) t v, Try.f3.params[j]? = some t → args[j]? = some v → Value.okWide Try.prog W .any base t v := hval0
  have hW' := hW
  obtain ⟨p, q, hA0, hV, rfl, hfz, hnd⟩ := hW
  have hA : DataW.TrodAll enc Try.prog W 0 (fun _ => true) true Try.f3.params.toList args.toList ds p := hA0
  rw [Try.params3] at hA hval
  obtain ⟨v0, vs0, d0, ds0, p0, q0, hargs, rfl, rfl, h0, r0⟩ := trodAll_cons hA
  obtain ⟨v1, vs1, d1, ds1, p1, q1, rfl, rfl, rfl, h1, r1⟩ := trodAll_cons r0
  obtain ⟨v2, vs2, d2, ds2, p2, q2, rfl, rfl, rfl, h2, r2⟩ := trodAll_cons r1
  obtain ⟨rfl, rfl, rfl⟩ := trodAll_nil r2
  obtain rfl : args = #[v0, v1, v2] := by cases args; simp_all
  obtain ⟨rfl, rfl⟩ := trodVars_none hV
  have k0 := h0
  have lt0 : ∀ x ∈ p0, x.block < W.heap.size := by obtain ⟨m, hm⟩ := k0; exact DataW.trod_lt m _ _ _ hm
  obtain ⟨ik0, ix0, is0, aF0, cF0, fs0, aL0, cL0, ws0, rfl, iF0, iL0, il0, wk0, wx0⟩ := open_item (hval 0 25 v0 rfl rfl) h0
  have k1 := h1
  have lt1 : ∀ x ∈ p1, x.block < W.heap.size := by obtain ⟨m, hm⟩ := k1; exact DataW.trod_lt m _ _ _ hm
  obtain ⟨ik1, ix1, is1, aF1, cF1, fs1, aL1, cL1, ws1, rfl, iF1, iL1, il1, wk1, wx1⟩ := open_item (hval 1 25 v1 rfl rfl) h1
  obtain ⟨a2, rfl, rfl, rfl, w2⟩ := open_int Try.underlying3 (hval 2 3 v2 rfl rfl) h2
  clear hA0 hval0
  refine (walk ik0 ix0 is0 aF0 cF0 fs0 aL0 cL0 ws0 ik1 ix1 is1 aF1 cF1 fs1 aL1 cL1 ws1 a2 W iF0 iL0 il0 iF1 iL1 il1 w2).mono fun e W' ⟨he, bel⟩ => ?_
  subst he
  exact ⟨_, rfl, _, _, _, [], _, [], hW', trodAll_mk1 (shut_bool Try.underlying4 _), (trodAll_cons_mk (Below.trod laidOut (by kernel_rfl) (of_decide_eq_true (by kernel_rfl)) k0 bel lt0) (trodAll_cons_mk (Below.trod laidOut (by kernel_rfl) (of_decide_eq_true (by kernel_rfl)) k1 bel lt1) (trodAll_cons_mk (shut_int Try.underlying3 w2) trodAll_mk0))), rfl, bel.frame _, fun h => by cases h⟩

theorem over : Rows.itemAllRow.holds Try.pinned (OpenSpec.ofChange Rows.itemAllSpec) :=
  OpenClaim.holds_of_wide 3 Try.f3 rfl rfl rfl rfl rfl rfl rfl ⟨rfl, rfl, rfl, rfl, rfl⟩ rfl rfl rfl rfl rfl (by kernel_rfl) Try.func3 (by kernel_rfl)
    (of_decide_eq_true (by kernel_rfl)) (by unfold Func.isWrapper; first | (rw [if_pos (by decide +kernel)]; kernel_rfl) | (rw [if_neg (by decide +kernel)]; exact ⟨rfl, rfl⟩))
    (fun os started H enc _ => lifted os started H enc)

theorem proved : Rows.ItemAllSaid := over
#print axioms proved
end Go.Proofs.Ytdnonginlbjcoaa.itemAll
