/- The contract of strings.Clone. -/
import Derived.Test.YtdnonginlbjcoaaShelfC
import Derived.Test.YtdnonginlbjcoaaItTexts
namespace Go.Proofs.Ytdnonginlbjcoaa
open Go.RowKit Go.Shelf

set_option maxHeartbeats 1000000 in
theorem clone_any (l : List UInt8) (w : World) (h : l.length ≤ 281474976710656) : Calls Try.prog 28 #[.string ⟨l.toArray⟩] w fun e w' => e = .returned (.string ⟨l.toArray⟩) ∧ Below w.heap.size w w' := by
  have hs : (⟨l.toArray⟩ : ByteArray).size = l.length := by simp [ByteArray.size]
  have hc : Calls Try.prog 36 #[.string ⟨l.toArray⟩] w fun e w' => e = .returned (.string ⟨l.toArray⟩) ∧ Below w.heap.size w w' := Any.stringslite_Clone Try.cloneL ⟨l.toArray⟩ w (by omega)
  have HC := Lib.hid hc
  clear hc hs
  go_enter Try.func28, Try.ntmps28
  go_wp2_with (go_at_call 36; refine HC.out.mono ?_; rintro e w1 ⟨rfl, hb⟩; have HB := Lib.hid hb; clear hb)
  go_ret
  exact ⟨rfl, HB.out⟩

/-- fields as cells. -/
def fcells (fs : List (List UInt8 × List UInt8)) : List Value := fs.flatMap fun p => [Value.string ⟨p.1.toArray⟩, Value.string ⟨p.2.toArray⟩]

theorem infoF : (Try.prog.info? 37).map (fun i => (i.zero, i.size, i.bytes)) = some (some (.agg #[.string ⟨#[]⟩, .string ⟨#[]⟩]), 2, 32) := by kernel_rfl

theorem fcells_len (l : List (List UInt8 × List UInt8)) : (fcells l).length = l.length * 2 := by
  induction l with
  | nil => rfl
  | cons s l ih => simp only [fcells, List.flatMap_cons, List.length_append, List.length_cons, List.length_nil] at ih ⊢; omega

theorem fcells_at (l : List (List UInt8 × List UInt8)) (k : Nat) (h : k < l.length) : (fcells l)[k * 2]? = some (.string ⟨(l.getD k ([], [])).1.toArray⟩) ∧ (fcells l)[k * 2 + 1]? = some (.string ⟨(l.getD k ([], [])).2.toArray⟩) := by
  induction l generalizing k with
  | nil => simp at h
  | cons x l ih =>
    have e : fcells (x :: l) = .string ⟨x.1.toArray⟩ :: .string ⟨x.2.toArray⟩ :: fcells l := by simp [fcells]
    rw [e]
    cases k with
    | zero => simp
    | succ k =>
      have := ih k (by simpa using h)
      rw [show (k + 1) * 2 = k * 2 + 1 + 1 by omega, show k * 2 + 1 + 1 + 1 = k * 2 + 1 + 1 + 1 from rfl]
      simpa using this

/-- a slice of fields that the call itself appended to. -/
theorem fds_of_row {w : World} {base : Nat} {v : Value} {l : List (List UInt8 × List UInt8)} (h : w.ownsRow base 37 2 v l.length (fcells l)) (hl : ∀ p ∈ l, p.1.length ≤ 9223372036854775807 ∧ p.2.length ≤ 9223372036854775807) :
    ∃ a cap, v = .slice a l.length cap ∧ Fds w a cap l ∧ (l ≠ [] → ∃ g, a = some ⟨g, 0, none⟩ ∧ base ≤ g ∧ g < w.heap.size ∧ ∀ j, w.frozen? ⟨g, j, none⟩ = false) := by
  obtain ⟨_, hcase⟩ := h
  rcases hcase with ⟨h1, h2⟩ | ⟨g, cap, cur, h1, hgB, hgg, hnc, hcm, hcs, htk⟩
  · have h0 : l = [] := List.eq_nil_of_length_eq_zero h2
    subst h0
    exact ⟨none, 0, h1, fds_nil w, fun h => (h rfl).elim⟩
  · have hlt : g < w.heap.size := (Array.getElem?_eq_some_iff.1 hgg).1
    refine ⟨some ⟨g, 0, none⟩, cap, h1, ⟨hnc, by unfold maxLen at hcm; omega, hl, .inr ⟨g, 0, rfl, hlt, ?_⟩⟩, fun _ => ⟨g, rfl, hgB, hlt, fun j => by simp [World.frozen?, hgg]⟩⟩
    intro k hk
    have at_ : ∀ j, j < l.length * 2 → w.cell? ⟨g, j, none⟩ = (fcells l)[j]? := by
      intro j hj
      rw [cell_of_row w g j cur 37 (0, 0) hgg, ← htk]
      simp [hj]
    obtain ⟨e1, e2⟩ := fcells_at l k hk
    rw [Nat.zero_add, at_ _ (by omega), at_ _ (by omega)]
    exact ⟨e1, e2⟩

theorem fcells_snoc (l : List (List UInt8 × List UInt8)) (x y : List UInt8) : fcells (l ++ [(x, y)]) = fcells l ++ [Value.string ⟨x.toArray⟩, Value.string ⟨y.toArray⟩] := by simp [fcells]

end Go.Proofs.Ytdnonginlbjcoaa
