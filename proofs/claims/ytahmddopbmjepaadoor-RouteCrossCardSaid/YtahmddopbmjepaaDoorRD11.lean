/- The item of a key in a space, with its places. No program in it. Plain mathematics of lists of spans (chapter 2): what they denote, which are valid. No program in it. -/
import Derived.Test.YtahmddopbmjepaaDoorRD10
namespace Go.Proofs.YtahmddopbmjepaaDoor
open Go.RowKit Go.Shelf
attribute [local go_sem] Oper.semAt_some
set_option linter.unusedVariables false
set_option linter.unusedSimpArgs false

/-- the item of a key, with its places. -/
def rawL (ps : List Lp) (key : List UInt8) : Option Li := (ps.find? fun p => decide (p.key = key)).map Lp.it
theorem rawL_hit (ps : List Lp) (key : List UInt8) : ∀ n, n < ps.length → (∀ j, j < n → (ps.getD j Lp.zero).key ≠ key) → (ps.getD n Lp.zero).key = key → rawL ps key = some (ps.getD n Lp.zero).it := by
  induction ps with
  | nil => intro n h; simp at h
  | cons p ps ih =>
    intro n hn h he
    unfold rawL
    cases n with
    | zero =>
      have he' : p.key = key := by simpa using he
      rw [List.find?_cons_of_pos (by simpa using he')]
      rfl
    | succ n =>
      have h0 : ¬ p.key = key := by simpa using h 0 (by omega)
      rw [List.find?_cons_of_neg (by simpa using h0)]
      have := ih n (by simpa using hn) (fun j hj => by simpa using h (j + 1) (by omega)) (by simpa using he)
      unfold rawL at this
      rw [this]
      simp
theorem rawL_miss (ps : List Lp) (key : List UInt8) (h : ∀ j, j < ps.length → (ps.getD j Lp.zero).key ≠ key) : rawL ps key = none := by
  unfold rawL
  rw [List.find?_eq_none.2 ?_]
  · rfl
  · intro p hp
    obtain ⟨j, hj, rfl⟩ := List.getElem_of_mem hp
    have := h j hj
    rw [getD_eq hj] at this
    simpa using this
/-- what Raw and Get tell. -/
def gotv (o : Option Li) : Value := .agg #[.int .i64 (o.getD Li.zero).k, .string ⟨(o.getD Li.zero).s.toArray⟩, .slice (o.getD Li.zero).aF (o.getD Li.zero).fs.length (o.getD Li.zero).cF, .slice (o.getD Li.zero).aL (o.getD Li.zero).ws.length (o.getD Li.zero).cL, .int .i64 (o.getD Li.zero).x, .bool o.isSome]
theorem rawL_ok {w : World} {ps : List Lp} (h : ∀ p ∈ ps, p.Ok w) (key : List UInt8) : ((rawL ps key).getD Li.zero).Ok w := by
  unfold rawL
  cases hf : ps.find? fun p => decide (p.key = key) with
  | none => exact Li.zero_ok w
  | some p => exact (h p (List.mem_of_find?_eq_some hf)).2

end Go.Proofs.YtahmddopbmjepaaDoor
namespace Go.Proofs.YtahmddopbmjepaaDoor
namespace Sp

/-- a span: from, to. -/
abbrev S := Int × Int

def inB (n : Int) (s : S) : Bool := decide (0 ≤ n) && decide (n < 16384) && decide (s.1 ≤ n) && decide (n ≤ s.2)

/-- does a list denote this slot? -/
def hasB (l : List S) (n : Int) : Bool := l.any (inB n)

theorem hasB_take_succ {l : List S} {k : Nat} (hk : k < l.length) (n : Int) : hasB (l.take (k + 1)) n = (hasB (l.take k) n || inB n (l.getD k (0, 0))) := by
  unfold hasB
  rw [List.take_succ_eq_append_getElem hk, List.any_append]
  simp [List.getD, hk]

theorem hasB_of {l : List S} {k : Nat} (hk : k < l.length) {n : Int} (h : inB n (l.getD k (0, 0)) = true) : hasB l n = true := by
  unfold hasB
  rw [List.any_eq_true]
  have e : l.getD k (0, 0) = l[k] := by simp [List.getD, hk]
  exact ⟨l[k], List.getElem_mem hk, e ▸ h⟩

theorem hasB_out {l : List S} {n : Int} (h : n < 0 ∨ 16384 ≤ n) : hasB l n = false := by
  unfold hasB
  rw [List.any_eq_false]
  intro s _
  unfold inB
  rcases h with h | h
  · have : decide (0 ≤ n) = false := by simp; omega
    simp [this]
  · have : decide (n < 16384) = false := by simp; omega
    simp [this]

theorem hasB_iff {l : List S} {n : Int} : hasB l n = true ↔ 0 ≤ n ∧ n < 16384 ∧ ∃ s ∈ l, s.1 ≤ n ∧ n ≤ s.2 := by
  unfold hasB inB
  rw [List.any_eq_true]
  constructor
  · rintro ⟨s, hs, h⟩
    simp at h
    exact ⟨h.1.1.1, h.1.1.2, s, hs, h.1.2, h.2⟩
  · rintro ⟨h0, h1, s, hs, h2, h3⟩
    exact ⟨s, hs, by simp; omega⟩

/-- may a list stand so? -/
def Valid (l : List S) : Prop := (∀ s ∈ l, 0 ≤ s.1 ∧ s.1 ≤ s.2 ∧ s.2 < 16384) ∧ l.Pairwise (fun s t => s.2 + 1 < t.1)

/-- two valid lists that denote the same slots are one. -/
theorem Valid.unique : ∀ {l m : List S}, Valid l → Valid m → (∀ n, hasB l n = hasB m n) → l = m
  | [], [], _, _, _ => rfl
  | [], t :: r, _, hm, h => by
    have ht := hm.1 t (by simp)
    have := h t.1
    have h2 : hasB (t :: r) t.1 = true := hasB_iff.2 ⟨by omega, by omega, t, by simp, by omega, by omega⟩
    rw [h2] at this
    simp [hasB] at this
  | s :: l, [], hl, _, h => by
    have hs := hl.1 s (by simp)
    have := h s.1
    have h2 : hasB (s :: l) s.1 = true := hasB_iff.2 ⟨by omega, by omega, s, by simp, by omega, by omega⟩
    rw [h2] at this
    simp [hasB] at this
  | s :: l, t :: r, hl, hm, h => by
    have hs := hl.1 s (by simp)
    have ht := hm.1 t (by simp)
    have hlp := List.pairwise_cons.1 hl.2
    have hmp := List.pairwise_cons.1 hm.2
    -- the least slot
    have lo : ∀ (s t : S) (l r : List S), Valid (s :: l) → Valid (t :: r) → (∀ n, hasB (s :: l) n = hasB (t :: r) n) → s.1 ≤ t.1 := by
      intro s t l r hl hm h
      have ht := hm.1 t (by simp)
      have h2 : hasB (t :: r) t.1 = true := hasB_iff.2 ⟨by omega, by omega, t, by simp, by omega, by omega⟩
      rw [← h t.1] at h2
      obtain ⟨_, _, u, hu, h3, _⟩ := hasB_iff.1 h2
      rcases List.mem_cons.1 hu with rfl | hu
      · exact h3
      · have := (List.pairwise_cons.1 hl.2).1 u hu
        have := hl.1 s (by simp)
        omega
    have e1 : s.1 = t.1 := by
      have a := lo s t l r hl hm h
      have b := lo t s r l hm hl (fun n => (h n).symm)
      omega
    have hi : ∀ (s t : S) (l r : List S), Valid (s :: l) → Valid (t :: r) → s.1 = t.1 → (∀ n, hasB (s :: l) n = hasB (t :: r) n) → ¬ s.2 < t.2 := by
      intro s t l r hl hm he h hlt
      have hs := hl.1 s (by simp)
      have ht := hm.1 t (by simp)
      have h2 : hasB (t :: r) (s.2 + 1) = true := hasB_iff.2 ⟨by omega, by omega, t, by simp, by omega, by omega⟩
      rw [← h (s.2 + 1)] at h2
      obtain ⟨_, _, u, hu, h3, h4⟩ := hasB_iff.1 h2
      rcases List.mem_cons.1 hu with rfl | hu
      · omega
      · have := (List.pairwise_cons.1 hl.2).1 u hu
        omega
    have e2 : s.2 = t.2 := by
      have a := hi s t l r hl hm e1 h
      have b := hi t s r l hm hl e1.symm (fun n => (h n).symm)
      omega
    have es : s = t := Prod.ext e1 e2
    subst es
    have hlv : Valid l := ⟨fun u hu => hl.1 u (by simp [hu]), hlp.2⟩
    have hrv : Valid r := ⟨fun u hu => hm.1 u (by simp [hu]), hmp.2⟩
    have : l = r := by
      refine Valid.unique hlv hrv (fun n => ?_)
      have hn := h n
      by_cases hin : s.1 ≤ n ∧ n ≤ s.2
      · have a : ∀ q : List S, Valid (s :: q) → hasB q n = false := by
          intro q hq
          rw [Bool.eq_false_iff]
          intro hc
          obtain ⟨_, _, u, hu, h3, h4⟩ := hasB_iff.1 hc
          have := (List.pairwise_cons.1 hq.2).1 u hu
          omega
        rw [a l hl, a r hm]
      · have a : ∀ q : List S, hasB (s :: q) n = hasB q n := by
          intro q
          unfold hasB
          rw [List.any_cons]
          have : inB n s = false := by
            unfold inB
            by_cases h1 : s.1 ≤ n
            · have : ¬ n ≤ s.2 := fun h => hin ⟨h1, h⟩
              simp [this]
            · simp [h1]
          rw [this, Bool.false_or]
        rw [a l, a r] at hn
        exact hn
    rw [this]

/-- a place put into a rising list, once. -/
def ins (n : Int) : List Int → List Int
  | [] => [n]
  | x :: r => if x < n then x :: ins n r else if x = n then x :: r else n :: x :: r

/-- a place that does not count is left out. -/
def mark (l : List Int) (n : Int) : List Int := if 0 ≤ n ∧ n ≤ 16384 then ins n l else l

theorem ins_split {n : Int} : ∀ {p q : List Int}, (∀ x ∈ p, x < n) → (∀ x ∈ q, n ≤ x) → ins n (p ++ q) = p ++ (if q.head? = some n then q else n :: q)
  | [], [], _, _ => rfl
  | [], y :: q, _, hq => by
    have h1 := hq y (by simp)
    simp only [List.nil_append, ins]
    rw [if_neg (by omega)]
    by_cases h : y = n <;> simp [h]
  | x :: p, q, hp, hq => by
    have h1 := hp x (by simp)
    simp only [List.cons_append, ins]
    rw [if_pos h1, ins_split (fun y hy => hp y (by simp [hy])) hq]

theorem ins_mem {n x : Int} : ∀ {l : List Int}, x ∈ ins n l ↔ x = n ∨ x ∈ l
  | [] => by simp [ins]
  | y :: r => by
    simp only [ins]
    split
    · rw [List.mem_cons, ins_mem, List.mem_cons]
      constructor
      · rintro (h | h | h)
        · exact .inr (.inl h)
        · exact .inl h
        · exact .inr (.inr h)
      · rintro (h | h | h)
        · exact .inr (.inl h)
        · exact .inl h
        · exact .inr (.inr h)
    · split
      · rename_i h
        subst h
        simp
      · simp

theorem ins_sorted {n : Int} : ∀ {l : List Int}, l.Pairwise (· < ·) → (ins n l).Pairwise (· < ·)
  | [], _ => by simp [ins]
  | y :: r, h => by
    have hp := List.pairwise_cons.1 h
    simp only [ins]
    split
    · rename_i hy
      refine List.pairwise_cons.2 ⟨fun z hz => ?_, ins_sorted hp.2⟩
      rcases ins_mem.1 hz with rfl | hz
      · exact hy
      · exact hp.1 z hz
    · split
      · exact h
      · refine List.pairwise_cons.2 ⟨fun z hz => ?_, h⟩
        rcases List.mem_cons.1 hz with rfl | hz
        · omega
        · have := hp.1 z hz; omega

theorem mark_sorted {n : Int} {l : List Int} (h : l.Pairwise (· < ·)) : (mark l n).Pairwise (· < ·) := by
  unfold mark; split
  · exact ins_sorted h
  · exact h

theorem mark_mem {n x : Int} {l : List Int} : x ∈ mark l n ↔ (x = n ∧ 0 ≤ n ∧ n ≤ 16384) ∨ x ∈ l := by
  unfold mark; split
  · rename_i h
    rw [ins_mem]; constructor
    · rintro (h1 | h1)
      · exact .inl ⟨h1, h⟩
      · exact .inr h1
    · rintro (h1 | h1)
      · exact .inl h1.1
      · exact .inr h1
  · rename_i h
    constructor
    · exact .inr
    · rintro (h1 | h1)
      · exact absurd h1.2 h
      · exact h1

theorem mark_out {l : List Int} {n : Int} (h : n < 0 ∨ 16384 < n) : mark l n = l := by
  unfold mark; rw [if_neg (by omega)]

theorem drop_head {l : List Int} {k : Nat} (hk : k < l.length) : (l.drop k).head? = some (l.getD k 0) := by
  rw [List.head?_drop]; simp [List.getD, hk]

theorem mark_here {l : List Int} {n : Int} {k : Nat} (h0 : 0 ≤ n) (h1 : n ≤ 16384) (hk : k < l.length) (hp : ∀ x ∈ l.take k, x < n) (hq : ∀ x ∈ l.drop k, n ≤ x) (he : l.getD k 0 = n) : mark l n = l := by
  unfold mark
  rw [if_pos ⟨h0, h1⟩]
  have := ins_split hp hq
  rw [List.take_append_drop, drop_head hk, if_pos (by rw [he]), List.take_append_drop] at this
  exact this

theorem mark_new {l : List Int} {n : Int} {k : Nat} (h0 : 0 ≤ n) (h1 : n ≤ 16384) (hp : ∀ x ∈ l.take k, x < n) (hq : ∀ x ∈ l.drop k, n ≤ x) (he : k < l.length → l.getD k 0 ≠ n) : mark l n = l.take k ++ n :: l.drop k := by
  unfold mark
  rw [if_pos ⟨h0, h1⟩]
  have := ins_split hp hq
  rw [List.take_append_drop, if_neg] at this
  · exact this
  · intro hh
    by_cases hk : k < l.length
    · rw [drop_head hk] at hh
      exact he hk (Option.some.inj hh)
    · rw [List.drop_of_length_le (by omega)] at hh
      simp at hh

theorem below_of_sorted {l : List Int} {n : Int} {k : Nat} (hs : l.Pairwise (· < ·)) (hk : k < l.length) (hx : l.getD k 0 < n) : ∀ x ∈ l.take (k + 1), x < n := by
  intro x hx2
  obtain ⟨i, hi, rfl⟩ := List.mem_iff_getElem.1 hx2
  simp at hi
  have e : l.getD k 0 = l[k] := by simp [List.getD, hk]
  rw [List.getElem_take]
  by_cases hik : i = k
  · subst hik; omega
  · have := (List.pairwise_iff_getElem.1 hs) i k (by omega) hk (by omega)
    omega

/-- the places where one span begins and ends. -/
def stepM (m : List Int) (s : S) : List Int :=
  if s.1 ≤ s.2 then (if s.2 < 16384 then mark (mark m s.1) (s.2 + 1) else mark m s.1) else m

def marksS (l : List S) : List Int := l.foldl stepM [0, 16384]

theorem mark_len (m : List Int) (n : Int) : (mark m n).length ≤ m.length + 1 := by
  unfold mark; split
  · have : ∀ l : List Int, (ins n l).length ≤ l.length + 1 := by
      intro l
      induction l with
      | nil => simp [ins]
      | cons x r ih =>
        simp only [ins]
        split
        · simpa using ih
        · split <;> simp
    exact this m
  · omega

theorem stepM_len (m : List Int) (s : S) : (stepM m s).length ≤ m.length + 2 := by
  have h1 := mark_len m s.1
  have h2 := mark_len (mark m s.1) (s.2 + 1)
  unfold stepM; split
  · split <;> omega
  · omega

theorem stepM_sorted {m : List Int} (s : S) (h : m.Pairwise (· < ·)) : (stepM m s).Pairwise (· < ·) := by
  unfold stepM; split
  · split
    · exact mark_sorted (mark_sorted h)
    · exact mark_sorted h
  · exact h

theorem stepM_mem {m : List Int} {s : S} {x : Int} : x ∈ stepM m s ↔ x ∈ m ∨ (s.1 ≤ s.2 ∧ 0 ≤ x ∧ x ≤ 16384 ∧ (x = s.1 ∨ (s.2 < 16384 ∧ x = s.2 + 1))) := by
  unfold stepM
  split
  · rename_i h
    split
    · rename_i h2
      rw [mark_mem, mark_mem]
      constructor
      · rintro (⟨rfl, h3, h4⟩ | ⟨rfl, h3, h4⟩ | h3)
        · exact .inr ⟨h, h3, h4, .inr ⟨h2, rfl⟩⟩
        · exact .inr ⟨h, h3, h4, .inl rfl⟩
        · exact .inl h3
      · rintro (h3 | ⟨_, h3, h4, rfl | ⟨_, rfl⟩⟩)
        · exact .inr (.inr h3)
        · exact .inr (.inl ⟨rfl, h3, h4⟩)
        · exact .inl ⟨rfl, h3, h4⟩
    · rename_i h2
      rw [mark_mem]
      constructor
      · rintro (⟨rfl, h3, h4⟩ | h3)
        · exact .inr ⟨h, h3, h4, .inl rfl⟩
        · exact .inl h3
      · rintro (h3 | ⟨_, h3, h4, rfl | ⟨h5, _⟩⟩)
        · exact .inr h3
        · exact .inl ⟨rfl, h3, h4⟩
        · exact absurd h5 h2
  · rename_i h
    constructor
    · exact .inl
    · rintro (h3 | ⟨h4, _⟩)
      · exact h3
      · exact absurd h4 h

theorem foldM_mem {l : List S} : ∀ {m : List Int} {x : Int}, x ∈ l.foldl stepM m ↔ x ∈ m ∨ ∃ s ∈ l, s.1 ≤ s.2 ∧ 0 ≤ x ∧ x ≤ 16384 ∧ (x = s.1 ∨ (s.2 < 16384 ∧ x = s.2 + 1)) := by
  induction l with
  | nil => intro m x; simp
  | cons s l ih =>
    intro m x
    rw [List.foldl_cons, ih, stepM_mem]
    constructor
    · rintro ((h | h) | ⟨t, ht, h⟩)
      · exact .inl h
      · exact .inr ⟨s, by simp, h⟩
      · exact .inr ⟨t, by simp [ht], h⟩
    · rintro (h | ⟨t, ht, h⟩)
      · exact .inl (.inl h)
      · rcases List.mem_cons.1 ht with rfl | ht
        · exact .inl (.inr h)
        · exact .inr ⟨t, ht, h⟩

theorem foldM_sorted {l : List S} : ∀ {m : List Int}, m.Pairwise (· < ·) → (l.foldl stepM m).Pairwise (· < ·) := by
  induction l with
  | nil => intro m h; exact h
  | cons s l ih => intro m h; exact ih (stepM_sorted s h)

theorem foldM_len (l : List S) : ∀ m : List Int, (l.foldl stepM m).length ≤ m.length + 2 * l.length := by
  induction l with
  | nil => intro m; simp
  | cons s l ih =>
    intro m
    have h1 := ih (stepM m s)
    have h2 := stepM_len m s
    rw [List.foldl_cons]
    simp only [List.length_cons]
    omega

theorem marksS_sorted (l : List S) : (marksS l).Pairwise (· < ·) := foldM_sorted (by simp)

theorem marksS_mem {l : List S} {x : Int} : x ∈ marksS l ↔ x = 0 ∨ x = 16384 ∨ ∃ s ∈ l, s.1 ≤ s.2 ∧ 0 ≤ x ∧ x ≤ 16384 ∧ (x = s.1 ∨ (s.2 < 16384 ∧ x = s.2 + 1)) := by
  unfold marksS
  rw [foldM_mem]
  simp [or_assoc]

theorem marksS_len (l : List S) : (marksS l).length ≤ 2 + 2 * l.length := by
  have := foldM_len l [0, 16384]
  simpa [marksS] using this

theorem marksS_ne (l : List S) : marksS l ≠ [] := by
  intro h
  have : (0 : Int) ∈ marksS l := marksS_mem.2 (.inl rfl)
  rw [h] at this
  simp at this

theorem marksS_range {l : List S} {x : Int} (h : x ∈ marksS l) : 0 ≤ x ∧ x ≤ 16384 := by
  rcases marksS_mem.1 h with rfl | rfl | ⟨_, _, _, h1, h2, _⟩ <;> omega

theorem marksS_snoc {l : List S} {k : Nat} (hk : k < l.length) : marksS (l.take (k + 1)) = stepM (marksS (l.take k)) (l.getD k (0, 0)) := by
  unfold marksS
  rw [List.take_succ_eq_append_getElem hk, List.foldl_append]
  simp [List.getD, hk]

end Sp
end Go.Proofs.YtahmddopbmjepaaDoor
