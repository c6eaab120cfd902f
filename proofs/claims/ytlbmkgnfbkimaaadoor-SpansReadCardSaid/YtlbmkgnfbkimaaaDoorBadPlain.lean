/- Plain: the texts that SpansRead builds: one of two spans, and twelve that are no list's. -/
import Derived.Test.YtlbmkgnfbkimaaaDoorTextPlain
namespace Go.Proofs.YtlbmkgnfbkimaaaDoor
namespace Tx

theorem pieces_span : ∀ (xs : List (List UInt8)) (l m : List Sp.S), xs.foldlM Rs.step l = some m → ∀ x ∈ xs, ∃ s, Rs.span x = some s
  | [], _, _, _, x, hx => by simp at hx
  | y :: xs, l, m, h, x, hx => by
    simp only [List.foldlM_cons] at h
    obtain ⟨l1, h1, h2⟩ := Option.bind_eq_some_iff.1 h
    rw [List.mem_cons] at hx
    rcases hx with rfl | hx
    · unfold Rs.step at h1
      cases hs : Rs.span x with
      | none => rw [hs] at h1; simp at h1
      | some s => exact ⟨s, rfl⟩
    · exact pieces_span xs l1 m h2 x hx

theorem none_of_piece {bs : List UInt8} (h0 : bs ≠ []) {x : List UInt8} (hx : x ∈ splitL 44 bs) (hs : Rs.span x = none) : readD bs = none := by
  cases h : readD bs with
  | none => rfl
  | some l =>
    unfold readD at h
    rw [if_neg h0] at h
    obtain ⟨s, h1⟩ := pieces_span _ _ _ h x hx
    rw [hs] at h1
    simp at h1

theorem one_mem {s : Sp.S} (h0 : 0 ≤ s.1) (_h1 : s.1 ≤ s.2) {x : UInt8} (hx : x ∈ oneT s) : x = 45 ∨ (48 ≤ x.toNat ∧ x.toNat ≤ 57) := by
  unfold oneT at hx
  rw [List.mem_append] at hx
  rcases hx with hx | hx
  · exact .inr (dec_mem h0 hx)
  · split at hx
    · rw [List.mem_cons] at hx
      rcases hx with hx | hx
      · exact .inl hx
      · exact .inr (dec_mem (show 0 ≤ s.2 by omega) hx)
    · simp at hx

theorem span_bad_mem {l : List UInt8} {x : UInt8} (hx : x ∈ l) (h : ¬ (x = 45 ∨ (48 ≤ x.toNat ∧ x.toNat ≤ 57))) : Rs.span l = none := by
  cases hs : Rs.span l with
  | none => rfl
  | some s =>
    have hr := Rs.span_range hs
    have := span_back hs
    subst this
    exact absurd (one_mem hr.1 hr.2.1 hx) h

theorem count_dec {n : Int} (h : 0 ≤ n) : (Dig.dec n).count 45 = 0 := List.count_eq_zero.2 (dec_out h (by decide))

theorem count_one {s : Sp.S} (h0 : 0 ≤ s.1) (_h1 : s.1 ≤ s.2) : (oneT s).count 45 ≤ 1 := by
  unfold oneT
  rw [List.count_append, count_dec h0]
  split
  · rw [List.count_cons, count_dec (show 0 ≤ s.2 by omega)]; simp
  · simp

theorem span_bad_count {l : List UInt8} (h : 2 ≤ l.count 45) : Rs.span l = none := by
  cases hs : Rs.span l with
  | none => rfl
  | some s =>
    have hr := Rs.span_range hs
    have := span_back hs
    subst this
    have := count_one hr.1 hr.2.1
    omega

theorem last_dec {n : Int} (h : 0 ≤ n) : (Dig.dec n).getLast? ≠ some 45 := by
  intro hc
  have := List.mem_of_getLast? hc
  exact dec_out h (by decide) this

theorem last_one {s : Sp.S} (h0 : 0 ≤ s.1) (_h1 : s.1 ≤ s.2) : (oneT s).getLast? ≠ some 45 := by
  have e0 := dec_ne h0
  have e2 := dec_ne (show 0 ≤ s.2 by omega)
  unfold oneT
  by_cases h : s.1 < s.2
  · rw [if_pos h]
    cases hd : Dig.dec s.2 with
    | nil => exact absurd hd e2
    | cons x r =>
      have := last_dec (show 0 ≤ s.2 by omega)
      rw [hd] at this
      simpa [List.getLast?_append, List.getLast?_cons_cons] using this
  · rw [if_neg h, List.append_nil]
    exact last_dec h0

theorem span_bad_last {l : List UInt8} (h : l.getLast? = some 45) : Rs.span l = none := by
  cases hs : Rs.span l with
  | none => rfl
  | some s =>
    have hr := Rs.span_range hs
    have := span_back hs
    subst this
    exact absurd h (last_one hr.1 hr.2.1)

theorem slot_zero {l : List UInt8} (h : l ≠ []) : Rs.slot (48 :: l) = none := by
  unfold Rs.slot
  rw [if_pos (.inr ⟨rfl, by simp [h]⟩)]

theorem span_zero {s : Sp.S} (h0 : 0 ≤ s.1) (_h1 : s.1 ≤ s.2) : Rs.span (48 :: oneT s) = none := by
  unfold Rs.span oneT
  by_cases h : s.1 < s.2
  · have hn : (45 : UInt8) ∉ 48 :: Dig.dec s.1 := by
      simp only [List.mem_cons, not_or]
      exact ⟨by decide, dec_out h0 (by decide)⟩
    rw [if_pos h, ← List.cons_append, split_at hn]
    simp only [slot_zero (dec_ne h0)]
  · have hn : (45 : UInt8) ∉ 48 :: Dig.dec s.1 := by
      simp only [List.mem_cons, not_or]
      exact ⟨by decide, dec_out h0 (by decide)⟩
    rw [if_neg h, List.append_nil, split_out hn]
    simp only [slot_zero (dec_ne h0), Option.map_none]

theorem span_twice {n : Int} (h0 : 0 ≤ n) (h1 : n < 16384) : Rs.span (Dig.dec n ++ 45 :: Dig.dec n) = none := by
  unfold Rs.span
  rw [split_at (dec_out h0 (by decide))]
  simp only [slot_dec h0 h1]
  rw [if_neg (by omega)]

theorem dec_one (n : Int) : Dig.dec n = oneT (n, n) := by
  unfold oneT; simp

def Ok (s : Sp.S) : Prop := 0 ≤ s.1 ∧ s.1 ≤ s.2 ∧ s.2 < 16384

theorem two_out {p q : Sp.S} (hp : Ok p) (hq : Ok q) (h : ¬ p.2 + 1 < q.1) : readD (oneT p ++ 44 :: oneT q) = none := by
  unfold readD
  rw [if_neg (by simp), splitL_at (oneT_out hp.1 hp.2.1), splitL_out (oneT_out hq.1 hq.2.1)]
  unfold Rs.pieces
  simp only [List.foldlM_cons, List.foldlM_nil, Rs.step, span_one hp.1 hp.2.1 hp.2.2, span_one hq.1 hq.2.1 hq.2.2]
  simp [Rs.foll, h]

theorem two_in {p q : Sp.S} (hp : Ok p) (hq : Ok q) (h : p.2 + 1 < q.1) : readD (oneT p ++ 44 :: oneT q) = some [p, q] := by
  have hv : Sp.Valid [p, q] := by
    refine ⟨?_, ?_⟩
    · intro s hs
      simp only [List.mem_cons, List.mem_nil_iff, or_false] at hs
      rcases hs with rfl | rfl
      · exact hp
      · exact hq
    · simp [h]
  have := readD_text hv
  rw [textS_join] at this
  exact this

/-- the twelve. -/
def bads (a b c d : Int) : List (List UInt8) :=
  [(oneT (a, b) ++ 44 :: oneT (c, d)) ++ [44], 44 :: (oneT (a, b) ++ 44 :: oneT (c, d)), (oneT (a, b) ++ 44 :: oneT (c, d)) ++ [32], (oneT (a, b) ++ [44]) ++ Dig.dec (b + 1), (Dig.dec c ++ [44]) ++ oneT (a, b), (oneT (a, b) ++ [44]) ++ oneT (a, b),
   48 :: (oneT (a, b) ++ 44 :: oneT (c, d)), (oneT (a, b) ++ 44 :: oneT (c, d)) ++ [45], oneT (a, b) ++ [44, 49, 54, 51, 56, 52], oneT (a, b) ++ [45, 45, 53], (Dig.dec a ++ [45]) ++ Dig.dec a, [120]]

theorem bads_none {a b c d : Int} (h0 : 0 ≤ a) (h1 : a ≤ b) (h2 : b + 1 < c) (h3 : c ≤ d) (h4 : d < 16384) : ∀ x ∈ bads a b c d, readD x = none := by
  have o1 : (44 : UInt8) ∉ oneT (a, b) := oneT_out (s := (a, b)) h0 h1
  have o2 : (44 : UInt8) ∉ oneT (c, d) := oneT_out (s := (c, d)) (show 0 ≤ c by omega) h3
  have od : (44 : UInt8) ∉ Dig.dec a := dec_out h0 (by decide)
  have of_ : (44 : UInt8) ∉ [45, 45, 53] := by decide
  intro x hx
  simp only [bads, List.mem_cons, List.mem_nil_iff, or_false] at hx
  rcases hx with rfl | rfl | rfl | rfl | rfl | rfl | rfl | rfl | rfl | rfl | rfl | rfl
  · refine none_of_piece (by simp) (x := []) ?_ (by rfl)
    rw [List.append_assoc, List.cons_append, splitL_at o1, show oneT (c, d) ++ [44] = oneT (c, d) ++ 44 :: [] from rfl, splitL_at o2]
    simp [splitL]
  · refine none_of_piece (by simp) (x := []) ?_ (by rfl)
    simp [splitL]
  · refine none_of_piece (by simp) (x := oneT (c, d) ++ [32]) ?_ (span_bad_mem (x := 32) (by simp) (by decide))
    have o3 : (44 : UInt8) ∉ oneT (c, d) ++ [32] := by
      rw [List.mem_append]; rintro (h | h)
      · exact o2 h
      · simp at h
    rw [List.append_assoc, List.cons_append, splitL_at o1, splitL_out o3]
    simp
  · rw [dec_one, List.append_assoc]
    exact two_out (p := (a, b)) (q := (b + 1, b + 1)) ⟨h0, h1, show b < 16384 by omega⟩ ⟨show 0 ≤ b + 1 by omega, show b + 1 ≤ b + 1 by omega, show b + 1 < 16384 by omega⟩ (show ¬ b + 1 < b + 1 by omega)
  · rw [dec_one, List.append_assoc]
    exact two_out (p := (c, c)) (q := (a, b)) ⟨show 0 ≤ c by omega, show c ≤ c by omega, show c < 16384 by omega⟩ ⟨h0, h1, show b < 16384 by omega⟩ (show ¬ c + 1 < a by omega)
  · rw [List.append_assoc]
    exact two_out (p := (a, b)) (q := (a, b)) ⟨h0, h1, show b < 16384 by omega⟩ ⟨h0, h1, show b < 16384 by omega⟩ (show ¬ b + 1 < a by omega)
  · refine none_of_piece (by simp) (x := 48 :: oneT (a, b)) ?_ (span_zero (s := (a, b)) h0 h1)
    have o3 : (44 : UInt8) ∉ 48 :: oneT (a, b) := by
      rw [List.mem_cons]; rintro (h | h)
      · exact absurd h (by decide)
      · exact o1 h
    rw [← List.cons_append, splitL_at o3]
    simp
  · refine none_of_piece (by simp) (x := oneT (c, d) ++ [45]) ?_ (span_bad_last (by simp))
    have o3 : (44 : UInt8) ∉ oneT (c, d) ++ [45] := by
      rw [List.mem_append]; rintro (h | h)
      · exact o2 h
      · simp at h
    rw [List.append_assoc, List.cons_append, splitL_at o1, splitL_out o3]
    simp
  · refine none_of_piece (by simp) (x := [49, 54, 51, 56, 52]) ?_ (by decide)
    rw [show ([44, 49, 54, 51, 56, 52] : List UInt8) = 44 :: [49, 54, 51, 56, 52] from rfl, splitL_at o1]
    simp [splitL]
  · refine none_of_piece (by simp) (x := oneT (a, b) ++ [45, 45, 53]) ?_ (span_bad_count (by rw [List.count_append]; have : List.count (45 : UInt8) [45, 45, 53] = 2 := by decide
                                                                                             omega))
    have o3 : (44 : UInt8) ∉ oneT (a, b) ++ [45, 45, 53] := by
      rw [List.mem_append]; rintro (h | h)
      · exact o1 h
      · exact of_ h
    rw [splitL_out o3]
    simp
  · have e : (Dig.dec a ++ [45]) ++ Dig.dec a = Dig.dec a ++ 45 :: Dig.dec a := by simp
    rw [e]
    refine none_of_piece (by simp) (x := Dig.dec a ++ 45 :: Dig.dec a) ?_ (span_twice h0 (by omega))
    have o3 : (44 : UInt8) ∉ Dig.dec a ++ 45 :: Dig.dec a := by
      rw [List.mem_append, List.mem_cons]; rintro (h | h | h)
      · exact od h
      · exact absurd h (by decide)
      · exact od h
    rw [splitL_out o3]
    simp
  · refine none_of_piece (by simp) (x := [120]) ?_ (by decide)
    decide

theorem bads_size {a b c d : Int} (h0 : 0 ≤ a) (h1 : a ≤ b) (h2 : b + 1 < c) (h3 : c ≤ d) (h4 : d < 16384) : ∀ x ∈ bads a b c d, x.length ≤ 40 := by
  have l1 := dec_len (n := a) h0 (by omega)
  have l2 := dec_len (n := b) (by omega) (by omega)
  have l3 := dec_len (n := c) (by omega) (by omega)
  have l4 := dec_len (n := d) (by omega) (by omega)
  have l5 := dec_len (n := b + 1) (by omega) (by omega)
  have e1 : (oneT (a, b)).length ≤ 11 := by unfold oneT; rw [List.length_append]; split <;> simp <;> omega
  have e2 : (oneT (c, d)).length ≤ 11 := by unfold oneT; rw [List.length_append]; split <;> simp <;> omega
  intro x hx
  simp only [bads, List.mem_cons, List.mem_nil_iff, or_false] at hx
  rcases hx with rfl | rfl | rfl | rfl | rfl | rfl | rfl | rfl | rfl | rfl | rfl | rfl <;> simp <;> omega
end Tx
end Go.Proofs.YtlbmkgnfbkimaaaDoor
