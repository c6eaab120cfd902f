/- Iterators that hand over what they have laid, and leave a state behind: a round is told what holds of its element; behind the iterator the state of its own blocks (Pv) is told. No program in it. -/
import Derived.Test.YtcplfengdenllaaDoorSeq
namespace Go.Proofs.YtcplfengdenllaaDoor
open Go.RowKit

def AbidesP {β : Type} (Pv : Nat → Prop) (J : β → World → Prop) : Prop := ∀ s A C, J s A → Keeps (fun k => ¬ Pv k) A C → J s C

/-- AN ITERATOR's CONTRACT: it turns Pv alone of what lay, and a round keeps Pv and Dt; T: what is told of an element, S: what is told of all and of Pv behind the last one. -/
def SeqP {α : Type} (P : Program) (g : Nat) (lb : Array Value) (encs : α → Array Value) (Dt Pv : Nat → Prop) (T : Nat → α → World → Prop) (S : List α → World → Prop) (Sp : List α → Prop) (N : Nat) (w : World) : Prop :=
  ∀ (l : Nat) (J Jx : List α → World → Prop) (W : World), Below w.heap.size w W → AbidesP Pv J → AbidesP Pv Jx →
    (∀ pre x W1, W.heap.size ≤ W1.heap.size → J pre W1 → (∃ W0, W.heap.size ≤ W0.heap.size ∧ J pre W0 ∧ Keeps (fun k => ¬ Pv k) W0 W1 ∧ T W0.heap.size x W1) → pre.length < N → YieldAt Fence.wide 0 P l (encs x) W1 fun e W' =>
      Keeps (fun k => Dt k ∨ Pv k) W1 W' ∧ ((e = .returned (.bool true) ∧ J (pre ++ [x]) W') ∨ (e = .returned (.bool false) ∧ Jx (pre ++ [x]) W'))) →
    J [] W →
    CallsIn Fence.wide 0 P g (#[.func (.yield l) #[] #[]] ++ lb) W fun e W' => (∃ v, e = .returned v) ∧ W.heap.size ≤ W'.heap.size ∧ ((∃ xs, S xs W' ∧ J xs W') ∨ (∃ pre, Sp pre ∧ Jx pre W'))

/-- how the body of a round may be left. -/
def ownPostP {α : Type} (R : Nat → Prop) (I : List α → World → Prop) (Ix : Code → List α → World → Prop) (xs : List α) (W : World) : Exit → Act → World → Prop
  | .normal, _, W' => Keeps R W W' ∧ I xs W'
  | .ret, _, W' => Keeps R W W' ∧ Ix .ret xs W'
  | .exit id, _, W' => Keeps R W W' ∧ Ix (.exit id) xs W'
  | .goto t, _, W' => Keeps R W W' ∧ Ix (.goto t) xs W'
  | .panic _, _, _ => False
  | .outgrown, _, _ => False

/-- what a body must keep: the iterator's data, its own blocks, the loop's record and its deferred row. -/
def BodyS (Dt Pv : Nat → Prop) (b k : Nat) : Prop := Dt k ∨ Pv k ∨ k = b ∨ k = b + 1

variable {P : Program}

end Go.Proofs.YtcplfengdenllaaDoor
