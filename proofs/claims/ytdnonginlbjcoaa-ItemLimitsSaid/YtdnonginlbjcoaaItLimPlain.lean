/- The plain facts of ItemLimits: which items are valid. No program in it. -/
import Derived.Test.YtdnonginlbjcoaaItPlain
import Derived.Test.YtdnonginlbjcoaaDigPlain
namespace Go.Proofs.Ytdnonginlbjcoaa
namespace Lim
open It

/-- the texts x, x, .. -/
def xs (m : Nat) : List UInt8 := List.replicate m 120
/-- the fields. -/
def fsN (m k : Nat) : List (List UInt8 × List UInt8) := (List.range k).map fun j => (Dig.dec ((100 + j : Nat) : Int), xs m)
/-- the elements. -/
def wsN (m k : Nat) : List (List UInt8) := (List.range k).map fun j => Dig.dec ((100 + j : Nat) : Int) ++ xs m

theorem fsN_len (m k : Nat) : (fsN m k).length = k := by simp [fsN]
theorem wsN_len (m k : Nat) : (wsN m k).length = k := by simp [wsN]
theorem fsN_at (m : Nat) {k j : Nat} (h : j < k) : (fsN m k).getD j ([], []) = (Dig.dec ((100 + j : Nat) : Int), xs m) := by
  simp [fsN, List.getD, h]
theorem wsN_at (m : Nat) {k j : Nat} (h : j < k) : (wsN m k).getD j [] = Dig.dec ((100 + j : Nat) : Int) ++ xs m := by
  simp [wsN, List.getD, h]

theorem dec3 : (List.range 50).all (fun j => (Dig.dec ((100 + j : Nat) : Int)).length == 3 && (j == 0 || decide (Dig.dec ((100 + (j - 1) : Nat) : Int) < Dig.dec ((100 + j : Nat) : Int)))) = true := by decide +kernel
theorem dec_len {j : Nat} (h : j < 50) : (Dig.dec ((100 + j : Nat) : Int)).length = 3 := by
  have := List.all_eq_true.1 dec3 j (List.mem_range.2 h)
  simp only [Bool.and_eq_true, beq_iff_eq] at this
  exact this.1
theorem dec_lt {j : Nat} (h : j < 50) (h0 : 0 < j) : Dig.dec ((100 + (j - 1) : Nat) : Int) < Dig.dec ((100 + j : Nat) : Int) := by
  have := List.all_eq_true.1 dec3 j (List.mem_range.2 h)
  simp only [Bool.and_eq_true, Bool.or_eq_true, beq_iff_eq, decide_eq_true_eq] at this
  exact this.2.resolve_left (by omega)

theorem lt_app {a b s : List UInt8} (hl : a.length = b.length) (h : a < b) : a ++ s < b ++ s := by
  induction a generalizing b with
  | nil =>
    cases b with
    | nil => exact absurd h (List.lt_irrefl _)
    | cons y b => simp at hl
  | cons x a ih =>
    cases b with
    | nil => simp at hl
    | cons y b =>
      rw [List.cons_append, List.cons_append]
      rcases List.cons_lt_cons_iff.1 h with h' | ⟨h1, h2⟩
      · exact List.cons_lt_cons_iff.2 (.inl h')
      · exact List.cons_lt_cons_iff.2 (.inr ⟨h1, ih (by simpa using hl) h2⟩)

theorem wsN_ris (m : Nat) {k : Nat} (h : k ≤ 50) : risB (wsN m k) = true := by
  rw [risB_iff]
  intro j hj h0
  rw [wsN_len] at hj
  rw [wsN_at m hj, wsN_at m (by omega)]
  exact lt_app (by rw [dec_len (by omega), dec_len (by omega)]) (dec_lt (by omega) h0)

theorem fsN_ris (m : Nat) {k : Nat} (h : k ≤ 50) (s : List UInt8) (l : List (List UInt8)) (x y : Int) : risB (names ⟨x, s, fsN m k, l, y⟩) = true := by
  have e : names ⟨x, s, fsN m k, l, y⟩ = wsN 0 k := by simp [names, fsN, wsN, xs]
  rw [e]
  exact wsN_ris 0 h

/-- the end of life is in its bounds. -/
def farB (x : Int) : Bool := decide (0 ≤ x) && decide (x ≤ 9007199254740992)

theorem may_t (m : Nat) (x : Int) : mayB ⟨1, xs m, [], [], x⟩ = (decide (m ≤ 300) && farB x) := by
  simp [mayB, fitsB, textsS, fieldsS, farB, xs]
  cases decide (m ≤ 300) <;> simp

theorem all_ws (m : Nat) {k : Nat} (h : k ≤ 50) : ((wsN m k).all fun s => decide (s.length ≤ 300)) = (decide (k = 0) || decide (m ≤ 297)) := by
  rw [Bool.eq_iff_iff]
  simp only [wsN, List.all_map, List.all_eq_true, List.mem_range, Function.comp, List.length_append, decide_eq_true_eq, Bool.or_eq_true, xs, List.length_replicate]
  constructor
  · intro H
    by_cases hk : k = 0
    · exact .inl hk
    · have := H 0 (by omega)
      rw [dec_len (by omega)] at this
      exact .inr (by omega)
  · rintro (h1 | h1) j hj
    · omega
    · rw [dec_len (by omega)]; omega

theorem all_fs (m : Nat) {k : Nat} (h : k ≤ 50) : ((fieldsS (fsN m k)).all fun s => decide (s.length ≤ 300)) = (decide (k = 0) || decide (m ≤ 300)) := by
  rw [fields_all, Bool.eq_iff_iff]
  simp only [fsN, List.all_map, List.all_eq_true, List.mem_range, Function.comp, decide_eq_true_eq, Bool.or_eq_true, Bool.and_eq_true, xs, List.length_replicate]
  constructor
  · intro H
    by_cases hk : k = 0
    · exact .inl hk
    · exact .inr (H 0 (by omega)).2
  · rintro (h1 | h1) j hj
    · omega
    · rw [dec_len (by omega)]; omega

theorem may_f (m : Nat) {k : Nat} (h : k ≤ 50) (x : Int) : mayB ⟨2, [], fsN m k, [], x⟩ = (decide (1 ≤ k) && decide (k ≤ 40) && decide (m ≤ 300) && farB x) := by
  have hf : fitsB ⟨2, [], fsN m k, [], x⟩ = countB k := by simp [fitsB, fsN_len, fsN_ris m h]
  simp only [mayB, hf, textsS, List.append_nil, List.all_cons, all_fs m h, countB, farB, List.length_nil]
  rw [Bool.eq_iff_iff]
  simp only [Bool.and_eq_true, Bool.or_eq_true, decide_eq_true_eq]
  omega
theorem may_l (K : Int) (hK : K = 3 ∨ K = 4) (m : Nat) {k : Nat} (h : k ≤ 50) (x : Int) : mayB ⟨K, [], [], wsN m k, x⟩ = (decide (1 ≤ k) && decide (k ≤ 40) && decide (m ≤ 297) && farB x) := by
  have hf : fitsB ⟨K, [], [], wsN m k, x⟩ = countB k := by
    rcases hK with rfl | rfl
    · simp [fitsB, wsN_len]
    · simp [fitsB, wsN_len, wsN_ris m h]
  simp only [mayB, hf, textsS, fieldsS, List.flatMap_nil, List.nil_append, List.all_cons, all_ws m h, countB, farB, List.length_nil]
  rw [Bool.eq_iff_iff]
  simp only [Bool.and_eq_true, Bool.or_eq_true, decide_eq_true_eq]
  omega

theorem xs_len (m : Nat) : (xs m).length = m := by simp [xs]
theorem size_mk (l : List UInt8) : (⟨l.toArray⟩ : ByteArray).size = l.length := by simp [ByteArray.size]
theorem fsN_ok (m : Nat) {k : Nat} (h : k ≤ 50) (hm : m < 400) : ∀ p ∈ fsN m k, p.1.length ≤ 9223372036854775807 ∧ p.2.length ≤ 9223372036854775807 := by
  intro p hp
  simp only [fsN, List.mem_map, List.mem_range] at hp
  obtain ⟨j, hj, rfl⟩ := hp
  have := dec_len (j := j) (by omega)
  exact ⟨by dsimp only; omega, by dsimp only; rw [xs_len]; omega⟩
theorem wsN_ok (m : Nat) {k : Nat} (h : k ≤ 50) (hm : m < 400) : ∀ p ∈ wsN m k, p.length ≤ 9223372036854775807 := by
  intro p hp
  simp only [wsN, List.mem_map, List.mem_range] at hp
  obtain ⟨j, hj, rfl⟩ := hp
  have := dec_len (j := j) (by omega)
  rw [List.length_append, xs_len]
  omega
theorem xs_next (m : Nat) : (⟨(xs m).toArray⟩ : ByteArray) ++ ⟨#[120]⟩ = ⟨(xs (m + 1)).toArray⟩ := by
  rw [show xs (m + 1) = xs m ++ [120] from List.replicate_succ']
  apply ByteArray.ext
  simp
theorem dec_xs (m j : Nat) : (⟨(Dig.dec ((100 + j : Nat) : Int)).toArray⟩ : ByteArray) ++ ⟨(xs m).toArray⟩ = ⟨(Dig.dec ((100 + j : Nat) : Int) ++ xs m).toArray⟩ := by
  apply ByteArray.ext
  simp
end Lim
end Go.Proofs.Ytdnonginlbjcoaa
