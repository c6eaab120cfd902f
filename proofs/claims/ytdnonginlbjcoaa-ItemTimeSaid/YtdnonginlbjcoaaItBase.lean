/- Items in memory; Alive, Type, mayCount and bare, of the program and of the reference. -/
import Derived.Test.YtdnonginlbjcoaaWds
import Derived.Test.YtdnonginlbjcoaaItPlain
namespace Go.Proofs.Ytdnonginlbjcoaa
open Go.RowKit Go.Shelf
attribute [local go_sem] Oper.semAt_some

/-- a slice of fields. -/
def Fds (w : World) (a : Option Addr) (cap : Nat) (fs : List (List UInt8 × List UInt8)) : Prop :=
  fs.length ≤ cap ∧ cap ≤ 9223372036854775807 ∧ (∀ p ∈ fs, p.1.length ≤ 9223372036854775807 ∧ p.2.length ≤ 9223372036854775807) ∧
    (fs = [] ∨ ∃ b off, a = some ⟨b, off, none⟩ ∧ b < w.heap.size ∧ ∀ k, k < fs.length → w.cell? ⟨b, off + k * 2, none⟩ = some (.string ⟨(fs.getD k ([], [])).1.toArray⟩) ∧ w.cell? ⟨b, off + k * 2 + 1, none⟩ = some (.string ⟨(fs.getD k ([], [])).2.toArray⟩))

theorem Fds.keep {w w' : World} {a : Option Addr} {cap : Nat} {fs : List (List UInt8 × List UInt8)} (h : Fds w a cap fs) (hs : w.heap.size ≤ w'.heap.size) (hk : ∀ b off, a = some ⟨b, off, none⟩ → b < w.heap.size → w'.heap[b]? = w.heap[b]?) : Fds w' a cap fs := by
  obtain ⟨h0, h1, h2, h3⟩ := h
  refine ⟨h0, h1, h2, ?_⟩
  rcases h3 with h3 | ⟨b, off, ha, hlt, hc⟩
  · exact .inl h3
  · exact .inr ⟨b, off, ha, Nat.lt_of_lt_of_le hlt hs, fun k hk' => by
      rw [World.cell?_of_block (w := w) (a := ⟨b, off + k * 2, none⟩) (hk b off ha hlt), World.cell?_of_block (w := w) (a := ⟨b, off + k * 2 + 1, none⟩) (hk b off ha hlt)]
      exact hc k hk'⟩

theorem Fds.later {w w' : World} {a : Option Addr} {cap : Nat} {fs : List (List UInt8 × List UInt8)} (h : Fds w a cap fs) (hb : Below w.heap.size w w') : Fds w' a cap fs :=
  h.keep hb.size fun b _ _ hlt => hb.block b hlt

theorem Fds.get {w : World} {a : Option Addr} {cap : Nat} {fs : List (List UInt8 × List UInt8)} (h : Fds w a cap fs) (h0 : 0 < fs.length) :
    ∃ b off, a = some ⟨b, off, none⟩ ∧ b < w.heap.size ∧ ∀ k, k < fs.length → w.cell? ⟨b, off + k * 2, none⟩ = some (.string ⟨(fs.getD k ([], [])).1.toArray⟩) ∧ w.cell? ⟨b, off + k * 2 + 1, none⟩ = some (.string ⟨(fs.getD k ([], [])).2.toArray⟩) := by
  rcases h.2.2.2 with rfl | h
  · simp at h0
  · exact h

theorem Fds.len {w : World} {a : Option Addr} {cap : Nat} {fs : List (List UInt8 × List UInt8)} (h : Fds w a cap fs) {k : Nat} : (fs.getD k ([], [])).1.length ≤ 9223372036854775807 ∧ (fs.getD k ([], [])).2.length ≤ 9223372036854775807 := by
  by_cases hk : k < fs.length
  · rw [getD_eq hk]; exact h.2.2.1 _ (List.getElem_mem hk)
  · simp [List.getD, Nat.le_of_not_lt hk]

theorem fds_nil (w : World) : Fds w none 0 [] := ⟨Nat.le_refl _, by decide, by simp, .inl rfl⟩

/-- an item as a value. -/
def itv (k : Int) (s : List UInt8) (aF : Option Addr) (nF cF : Nat) (aL : Option Addr) (nL cL : Nat) (e : Int) : Value :=
  .agg #[.int .i64 k, .string ⟨s.toArray⟩, .slice aF nF cF, .slice aL nL cL, .int .i64 e]
/-- .. as cells. -/
def itc (k : Int) (s : List UInt8) (aF : Option Addr) (nF cF : Nat) (aL : Option Addr) (nL cL : Nat) (e : Int) : Obj :=
  .cells #[.int .i64 k, .string ⟨s.toArray⟩, .slice aF nF cF, .slice aL nL cL, .int .i64 e] 25

/-- a value is an item. -/
def ItIn (w : World) (v : Value) (i : It.I) : Prop :=
  ∃ aF cF aL cL, v = itv i.kind i.s aF i.f.length cF aL i.l.length cL i.exp ∧ Fds w aF cF i.f ∧ Wds w aL cL i.l ∧ i.s.length ≤ 9223372036854775807

theorem ItIn.later {w w' : World} {v : Value} {i : It.I} (h : ItIn w v i) (hb : Below w.heap.size w w') : ItIn w' v i := by
  obtain ⟨aF, cF, aL, cL, hv, hF, hL, hs⟩ := h
  exact ⟨aF, cF, aL, cL, hv, hF.later hb, hL.later hb, hs⟩

set_option maxHeartbeats 1000000 in
theorem alive_any (k : Int) (s : List UInt8) (aF : Option Addr) (nF cF : Nat) (aL : Option Addr) (nL cL : Nat) (x n : Int) (w : World) :
    Calls Try.prog 12 #[itv k s aF nF cF aL nL cL x, .int .i64 n] w fun e w' => e = .returned (.bool (decide (x = 0) || decide (n < x))) ∧ Below w.heap.size w w' := by
  unfold itv
  by_cases h0 : x = 0
  · subst h0
    go_enter Try.func12, Try.ntmps12
    go_wp2
    go_ret
    exact ⟨by simp, (Below.refl _ _).alloc (Nat.le_refl _) _⟩
  · by_cases h1 : n < x
    all_goals
      go_enter Try.func12, Try.ntmps12
      go_wp2
      go_ret
      exact ⟨by have e0 : (x == 0) = false := beq_eq_false_iff_ne.2 h0
                simp [e0, h0]; omega, (Below.refl _ _).alloc (Nat.le_refl _) _⟩

set_option maxHeartbeats 1000000 in
theorem refAlive_any (k : Int) (s : List UInt8) (aF : Option Addr) (nF cF : Nat) (aL : Option Addr) (nL cL : Nat) (x n : Int) (w : World) :
    Calls Try.prog 13 #[itv k s aF nF cF aL nL cL x, .int .i64 n] w fun e w' => e = .returned (.bool (decide (x = 0) || decide (n < x))) ∧ Below w.heap.size w w' := by
  unfold itv
  by_cases h0 : x = 0
  · subst h0
    go_enter Try.func13, Try.ntmps13
    go_wp2
    go_ret
    exact ⟨by simp, (Below.refl _ _).alloc (Nat.le_refl _) _⟩
  · by_cases h1 : n < x
    all_goals
      go_enter Try.func13, Try.ntmps13
      go_wp2
      go_ret
      exact ⟨by have e0 : (x == 0) = false := beq_eq_false_iff_ne.2 h0
                simp [e0, h0]; omega, (Below.refl _ _).alloc (Nat.le_refl _) _⟩

set_option maxHeartbeats 1000000 in
theorem type_any (k : Int) (s : List UInt8) (aF : Option Addr) (nF cF : Nat) (aL : Option Addr) (nL cL : Nat) (x : Int) (w : World) :
    Calls Try.prog 14 #[itv k s aF nF cF aL nL cL x] w fun e w' => e = .returned (.string ⟨(It.typeS k).toArray⟩) ∧ Below w.heap.size w w' := by
  unfold itv It.typeS
  by_cases h1 : k = 1
  · subst h1
    go_enter Try.func14, Try.ntmps14
    go_wp2
    go_ret
    exact ⟨rfl, (Below.refl _ _).alloc (Nat.le_refl _) _⟩
  by_cases h2 : k = 2
  · subst h2
    go_enter Try.func14, Try.ntmps14
    go_wp2
    go_ret
    exact ⟨rfl, (Below.refl _ _).alloc (Nat.le_refl _) _⟩
  by_cases h3 : k = 3
  · subst h3
    go_enter Try.func14, Try.ntmps14
    go_wp2
    go_ret
    exact ⟨rfl, (Below.refl _ _).alloc (Nat.le_refl _) _⟩
  by_cases h4 : k = 4
  · subst h4
    go_enter Try.func14, Try.ntmps14
    go_wp2
    go_ret
    exact ⟨rfl, (Below.refl _ _).alloc (Nat.le_refl _) _⟩
  · go_enter Try.func14, Try.ntmps14
    go_wp2
    go_ret
    exact ⟨by simp, (Below.refl _ _).alloc (Nat.le_refl _) _⟩

set_option maxHeartbeats 1000000 in
theorem refType_any (k : Int) (s : List UInt8) (aF : Option Addr) (nF cF : Nat) (aL : Option Addr) (nL cL : Nat) (x : Int) (w : World) :
    Calls Try.prog 15 #[itv k s aF nF cF aL nL cL x] w fun e w' => e = .returned (.string ⟨(It.typeS k).toArray⟩) ∧ Below w.heap.size w w' := by
  unfold itv It.typeS
  by_cases h1 : k = 1
  · subst h1
    go_enter Try.func15, Try.ntmps15
    go_wp2
    go_ret
    exact ⟨rfl, (Below.refl _ _).alloc (Nat.le_refl _) _⟩
  by_cases h2 : k = 2
  · subst h2
    go_enter Try.func15, Try.ntmps15
    go_wp2
    go_ret
    exact ⟨rfl, (Below.refl _ _).alloc (Nat.le_refl _) _⟩
  by_cases h3 : k = 3
  · subst h3
    go_enter Try.func15, Try.ntmps15
    go_wp2
    go_ret
    exact ⟨rfl, (Below.refl _ _).alloc (Nat.le_refl _) _⟩
  by_cases h4 : k = 4
  · subst h4
    go_enter Try.func15, Try.ntmps15
    go_wp2
    go_ret
    exact ⟨rfl, (Below.refl _ _).alloc (Nat.le_refl _) _⟩
  · go_enter Try.func15, Try.ntmps15
    go_wp2
    go_ret
    exact ⟨by simp, (Below.refl _ _).alloc (Nat.le_refl _) _⟩

set_option maxHeartbeats 1000000 in
theorem mayCount_any (n : Nat) (w : World) : Calls Try.prog 31 #[.int .i64 (n : Int)] w fun e w' => e = .returned (.bool (It.countB n)) ∧ w = w' := by
  unfold It.countB
  by_cases h1 : 1 ≤ n
  · have k1 : (1 : Int) ≤ (n : Int) := by omega
    by_cases h2 : n ≤ 40
    · have k2 : (n : Int) ≤ 40 := by omega
      have hr : (decide (1 ≤ n) && decide (n ≤ 40)) = true := by simp [h1, h2]
      rw [hr]
      clear hr h1 h2
      go_enter Try.func31, Try.ntmps31
      go_wp2
      go_ret
      exact ⟨rfl, rfl⟩
    · have k2 : (40 : Int) < (n : Int) := by omega
      have hr : (decide (1 ≤ n) && decide (n ≤ 40)) = false := by simp [h2]
      rw [hr]
      clear hr h1 h2
      go_enter Try.func31, Try.ntmps31
      go_wp2
      go_ret
      exact ⟨by simp; omega, rfl⟩
  · have k1 : (n : Int) < 1 := by omega
    have hr : (decide (1 ≤ n) && decide (n ≤ 40)) = false := by simp [h1]
    rw [hr]
    clear hr h1
    go_enter Try.func31, Try.ntmps31
    go_wp2
    go_ret
    exact ⟨rfl, rfl⟩
end Go.Proofs.Ytdnonginlbjcoaa
