/- Decimals of numbers, plain. Numbers as texts: what the reference's Number tells, as plain functions. No program in it. Plain mathematics of the tag of chapter 1: what stands between the first opening brace and the first closing brace behind it. No program in it. -/
import Derived.Lib.Bytealg
namespace Go.Proofs.YtahmddopbmjepaaDoor
namespace Dig

/-- the decimal of a number. -/
def digs (u : Nat) : List UInt8 := if u < 10 then [UInt8.ofNat (48 + u)] else digs (u / 10) ++ [UInt8.ofNat (48 + u % 10)]
termination_by u
decreasing_by omega

/-- .. with a sign. -/
def dec (n : Int) : List UInt8 := if n < 0 then 45 :: digs (-n).toNat else digs n.toNat

theorem digs_small {u : Nat} (h : u < 10) : digs u = [UInt8.ofNat (48 + u)] := by
  rw [digs, if_pos h]

theorem digs_step {u : Nat} (h : ¬ u < 10) : digs u = digs (u / 10) ++ [UInt8.ofNat (48 + u % 10)] := by
  rw [digs, if_neg h]

theorem digs_len (k : Nat) : ∀ u, u < 10 ^ (k + 1) → (digs u).length ≤ k + 1 := by
  induction k with
  | zero =>
    intro u h
    rw [digs_small (by omega)]
    simp
  | succ k ih =>
    intro u h
    by_cases hu : u < 10
    · rw [digs_small hu]; simp
    · rw [digs_step hu, List.length_append]
      have h2 : u / 10 < 10 ^ (k + 1) := by
        rw [Nat.pow_succ] at h
        exact Nat.div_lt_of_lt_mul (by rw [Nat.mul_comm]; exact h)
      have := ih _ h2
      simp; omega

theorem digs_len20 {u : Nat} (h : u ≤ 9223372036854775808) : (digs u).length ≤ 19 := digs_len 18 u (by omega)

end Dig
end Go.Proofs.YtahmddopbmjepaaDoor
namespace Go.Proofs.YtahmddopbmjepaaDoor
namespace Tx

/-- the value of digits. -/
def valD (l : List UInt8) : Nat := l.foldl (fun u c => 10 * u + (c.toNat - 48)) 0
def isD (c : UInt8) : Bool := decide (48 ≤ c.toNat) && decide (c.toNat ≤ 57)
def digB (l : List UInt8) : Bool := l.all isD
def negB : List UInt8 → Bool
  | [] => false
  | c :: _ => c == 45
def most (s : List UInt8) : Nat := if negB s then 9223372036854775808 else 9223372036854775807
def tailD (s : List UInt8) : List UInt8 := if negB s then s.drop 1 else s
def numI (s : List UInt8) : Int := if negB s then -(valD (tailD s) : Int) else (valD (tailD s) : Int)
def okB (s : List UInt8) : Bool := digB (tailD s) && decide (valD (tailD s) ≤ most s) && decide (tailD s ≠ []) && decide (Dig.dec (numI s) = s)
/-- the number of a text, if it is one's decimal. -/
def numS (s : List UInt8) : Int × Bool := if okB s then (numI s, true) else (0, false)

theorem valD_snoc (l : List UInt8) (c : UInt8) : valD (l ++ [c]) = 10 * valD l + (c.toNat - 48) := by simp [valD]
theorem fold_le (l : List UInt8) (a : Nat) : a ≤ l.foldl (fun u c => 10 * u + (c.toNat - 48)) a := by
  induction l generalizing a with
  | nil => exact Nat.le_refl _
  | cons c l ih =>
    rw [List.foldl_cons]
    exact Nat.le_trans (by omega) (ih _)
theorem valD_le (l r : List UInt8) : valD l ≤ valD (l ++ r) := by
  unfold valD
  rw [List.foldl_append]
  exact fold_le r _
theorem valD_take (l : List UInt8) (k : Nat) : valD (l.take k) ≤ valD l := by
  have := valD_le (l.take k) (l.drop k)
  rwa [List.take_append_drop] at this
theorem digB_at {l : List UInt8} {k : Nat} (h : k < l.length) (hd : isD (l.getD k 0) = false) : digB l = false := by
  unfold digB
  rw [List.all_eq_false]
  refine ⟨l.getD k 0, ?_, by rw [hd]; decide⟩
  have e : l.getD k 0 = l[k] := by simp [List.getD, h]
  rw [e]
  exact List.getElem_mem h
theorem take_at {l : List UInt8} {k : Nat} (h : k < l.length) : l.take (k + 1) = l.take k ++ [l.getD k 0] := by
  rw [List.take_succ_eq_append_getElem h]
  simp [List.getD, h]
theorem not_digit {s : List UInt8} {k : Nat} (h : k < (tailD s).length) (hd : isD ((tailD s).getD k 0) = false) : numS s = (0, false) := by
  simp [numS, okB, digB_at h hd]
theorem not_fit {s : List UInt8} {k : Nat} (h : k < (tailD s).length) (hd : most s < 10 * valD ((tailD s).take k) + (((tailD s).getD k 0).toNat - 48)) : numS s = (0, false) := by
  have h1 := valD_take (tailD s) (k + 1)
  rw [take_at h, valD_snoc] at h1
  have h2 : decide (valD (tailD s) ≤ most s) = false := decide_eq_false (by omega)
  simp [numS, okB, h2]
theorem num_end {s : List UInt8} (hd : digB (tailD s) = true) (hf : valD (tailD s) ≤ most s) : numS s = if tailD s ≠ [] ∧ Dig.dec (numI s) = s then (numI s, true) else (0, false) := by
  unfold numS okB
  rw [hd, decide_eq_true hf]
  by_cases h1 : tailD s = [] <;> by_cases h2 : Dig.dec (numI s) = s <;> simp [h1, h2]

/-! decimals are told -/
theorem digs_ne (u : Nat) : Dig.digs u ≠ [] := by
  unfold Dig.digs
  split <;> simp
theorem ofNat_digit {k : Nat} (h : k < 10) : (UInt8.ofNat (48 + k)).toNat = 48 + k := by
  simp
  omega
theorem digs_val (u : Nat) : valD (Dig.digs u) = u ∧ digB (Dig.digs u) = true := by
  induction u using Nat.strongRecOn with
  | _ u ih =>
    by_cases h : u < 10
    · rw [Dig.digs_small h]
      have e := ofNat_digit h
      refine ⟨?_, ?_⟩
      · simp only [valD, List.foldl_cons, List.foldl_nil, e]; omega
      · simp only [digB, List.all_cons, List.all_nil, isD, e]; simp; omega
    · rw [Dig.digs_step h]
      have e := ofNat_digit (k := u % 10) (by omega)
      obtain ⟨h1, h2⟩ := ih (u / 10) (by omega)
      refine ⟨?_, ?_⟩
      · rw [valD_snoc, h1, e]; omega
      · unfold digB at h2 ⊢
        rw [List.all_append, h2]
        simp only [List.all_cons, List.all_nil, isD, e]; simp; omega
theorem neg_digs (u : Nat) : negB (Dig.digs u) = false := by
  have h := (digs_val u).2
  cases hd : Dig.digs u with
  | nil => rfl
  | cons c r =>
    rw [hd] at h
    simp only [digB, List.all_cons, Bool.and_eq_true, isD, decide_eq_true_eq] at h
    simp only [negB, beq_eq_false_iff_ne]
    intro e
    rw [e] at h
    simp at h
/-- each number is told by its decimal. -/
theorem num_dec (n : Int) (h1 : -9223372036854775808 ≤ n) (h2 : n ≤ 9223372036854775807) : numS (Dig.dec n) = (n, true) := by
  by_cases hn : n < 0
  · have e : Dig.dec n = 45 :: Dig.digs (-n).toNat := by unfold Dig.dec; rw [if_pos hn]
    have hneg : negB (Dig.dec n) = true := by rw [e]; rfl
    have ht : tailD (Dig.dec n) = Dig.digs (-n).toNat := by unfold tailD; rw [hneg, if_pos rfl, e]; rfl
    have hi : numI (Dig.dec n) = n := by unfold numI; rw [hneg, if_pos rfl, ht, (digs_val _).1]; omega
    have hm : most (Dig.dec n) = 9223372036854775808 := by unfold most; rw [hneg, if_pos rfl]
    rw [num_end (by rw [ht]; exact (digs_val _).2) (by rw [ht, (digs_val _).1, hm]; omega), ht, hi, if_pos ⟨digs_ne _, rfl⟩]
  · have e : Dig.dec n = Dig.digs n.toNat := by unfold Dig.dec; rw [if_neg hn]
    have hneg : negB (Dig.dec n) = false := by rw [e]; exact neg_digs _
    have ht : tailD (Dig.dec n) = Dig.digs n.toNat := by unfold tailD; rw [hneg, if_neg (by simp), e]
    have hi : numI (Dig.dec n) = n := by unfold numI; rw [hneg, if_neg (by simp), ht, (digs_val _).1]; omega
    have hm : most (Dig.dec n) = 9223372036854775807 := by unfold most; rw [hneg, if_neg (by simp)]
    rw [num_end (by rw [ht]; exact (digs_val _).2) (by rw [ht, (digs_val _).1, hm]; omega), ht, hi, if_pos ⟨digs_ne _, rfl⟩]
/-- .. and what is told is its decimal. -/
theorem num_is {s : List UInt8} {n : Int} (h : numS s = (n, true)) : s = Dig.dec n ∧ -9223372036854775808 ≤ n ∧ n ≤ 9223372036854775807 := by
  unfold numS at h
  split at h
  · rename_i ho
    simp only [Prod.mk.injEq, and_true] at h
    subst h
    unfold okB at ho
    simp only [Bool.and_eq_true, decide_eq_true_eq] at ho
    obtain ⟨⟨⟨_, hm⟩, _⟩, hd⟩ := ho
    refine ⟨hd.symm, ?_⟩
    unfold most at hm
    unfold numI
    cases hn : negB s <;> rw [hn] at hm <;> simp at hm ⊢ <;> omega
  · simp at h
theorem num_no {s : List UInt8} (h : (numS s).2 = false) : numS s = (0, false) := by
  unfold numS at h ⊢
  split
  · rename_i ho; rw [if_pos ho] at h; simp at h
  · rfl

/-! Cut, Sub, Put, Add -/
def cutA (n a : Int) : Int := if a < 0 then max 0 (n + a) else a
def cutB (n b : Int) : Int := min (if b < 0 then n + b else b) (n - 1)
def subS (s : List UInt8) (a b : Int) : List UInt8 :=
  if cutB s.length b < cutA s.length a then [] else (s.take (cutB s.length b + 1).toNat).drop (cutA s.length a).toNat
def putOk (a : Int) (v : List UInt8) : Bool := decide (0 ≤ a) && decide (a + v.length ≤ 300)
def putB (s : List UInt8) (k : Nat) (v : List UInt8) : List UInt8 := (s ++ List.replicate (k - s.length) 0).take k ++ v ++ s.drop (k + v.length)
def putS (s : List UInt8) (a : Int) (v : List UInt8) : List UInt8 × Bool := if putOk a v then (if v = [] then (s, true) else (putB s a.toNat v, true)) else ([], false)
def addS (s : List UInt8) (n : Int) : List UInt8 × Bool :=
  if (numS s).2 && decide (-9223372036854775808 ≤ (numS s).1 + n) && decide ((numS s).1 + n ≤ 9223372036854775807) then (Dig.dec ((numS s).1 + n), true) else ([], false)
end Tx
end Go.Proofs.YtahmddopbmjepaaDoor
namespace Go.Proofs.YtahmddopbmjepaaDoor
namespace Tags

/-- a list of bytes parted at the first c. -/
def split (c : UInt8) : List UInt8 → Option (List UInt8 × List UInt8)
  | [] => none
  | x :: r => if x = c then some ([], r) else (split c r).map fun p => (x :: p.1, p.2)

def tag (k : List UInt8) : List UInt8 :=
  match split 123 k with
  | none => k
  | some p =>
    match split 125 p.2 with
    | none => k
    | some q => if q.1 = [] then k else q.1

theorem split_some {c : UInt8} : ∀ {l a b : List UInt8}, split c l = some (a, b) → l = a ++ c :: b ∧ c ∉ a ∧ Lib.indexByte l c = a.length
  | [], a, b, h => by simp [split] at h
  | x :: r, a, b, h => by
    simp only [split] at h
    by_cases hx : x = c
    · subst hx
      simp at h
      obtain ⟨rfl, rfl⟩ := h
      simp [Lib.indexByte]
    · rw [if_neg hx] at h
      cases hr : split c r with
      | none => simp [hr] at h
      | some p =>
        obtain ⟨a', b'⟩ := p
        simp [hr] at h
        obtain ⟨rfl, rfl⟩ := h
        obtain ⟨h1, h2, h3⟩ := split_some hr
        refine ⟨by rw [h1]; rfl, ?_, ?_⟩
        · intro hm
          rcases List.mem_cons.1 hm with h | h
          · exact hx h.symm
          · exact h2 h
        · unfold Lib.indexByte
          have : (x == c) = false := by simpa using hx
          rw [this, h3]
          have h4 : ((a'.length : Int) == -1) = false := by
            rw [beq_eq_false_iff_ne]; omega
          simp [h4]

theorem split_none {c : UInt8} : ∀ {l : List UInt8}, split c l = none → c ∉ l ∧ Lib.indexByte l c = -1
  | [], _ => by simp [Lib.indexByte]
  | x :: r, h => by
    simp only [split] at h
    by_cases hx : x = c
    · rw [if_pos hx] at h; simp at h
    · rw [if_neg hx] at h
      have hr : split c r = none := by
        cases hr : split c r with
        | none => rfl
        | some p => simp [hr] at h
      obtain ⟨h1, h2⟩ := split_none hr
      refine ⟨?_, ?_⟩
      · intro hm
        rcases List.mem_cons.1 hm with h | h
        · exact hx h.symm
        · exact h1 h
      · unfold Lib.indexByte
        have : (x == c) = false := by simpa using hx
        rw [this, h2]; rfl

theorem split_append {c : UInt8} {a b : List UInt8} (h : c ∉ a) : split c (a ++ c :: b) = some (a, b) := by
  induction a with
  | nil => simp [split]
  | cons x a ih =>
    have hx : x ≠ c := fun e => h (by simp [e])
    have ha : c ∉ a := fun e => h (by simp [e])
    simp [split, hx, ih ha]

theorem split_absent {c : UInt8} {l : List UInt8} (h : c ∉ l) : split c l = none := by
  induction l with
  | nil => rfl
  | cons x a ih =>
    have hx : x ≠ c := fun e => h (by simp [e])
    have ha : c ∉ a := fun e => h (by simp [e])
    simp [split, hx, ih ha]

theorem tag_len (k : List UInt8) : (tag k).length ≤ k.length := by
  unfold tag
  split
  · exact Nat.le_refl _
  · rename_i p hp
    split
    · exact Nat.le_refl _
    · rename_i q hq
      split
      · exact Nat.le_refl _
      · have h1 := (split_some (a := p.1) (b := p.2) hp).1
        have h2 := (split_some (a := q.1) (b := q.2) hq).1
        have h3 := congrArg List.length h1
        have h4 := congrArg List.length h2
        simp at h3 h4
        omega

theorem split_at {c : UInt8} {l : List UInt8} {n : Nat} (h : n < l.length) (hn : c ∉ l.take n) (hc : l[n] = c) : split c l = some (l.take n, l.drop (n + 1)) := by
  have e : l = l.take n ++ c :: l.drop (n + 1) := by
    rw [← hc, List.getElem_cons_drop, List.take_append_drop]
  have := split_append (b := l.drop (n + 1)) hn
  rw [← e] at this
  exact this

theorem notin_succ {c : UInt8} {l : List UInt8} {n : Nat} (h : n < l.length) (hn : c ∉ l.take n) (hc : l[n] ≠ c) : c ∉ l.take (n + 1) := by
  rw [List.take_succ_eq_append_getElem h]
  intro hm
  rcases List.mem_append.1 hm with h1 | h1
  · exact hn h1
  · simp at h1; exact hc h1.symm

theorem tag_no {l : List UInt8} (h : 123 ∉ l) : tag l = l := by
  unfold tag; rw [split_absent h]

theorem tag_open {l : List UInt8} {n : Nat} (h : n < l.length) (hn : 123 ∉ l.take n) (hc : l[n] = 123) (hb : 125 ∉ l.drop (n + 1)) : tag l = l := by
  unfold tag; rw [split_at h hn hc]; simp only; rw [split_absent hb]

theorem tag_empty {l : List UInt8} {n : Nat} (h : n < l.length) (hn : 123 ∉ l.take n) (hc : l[n] = 123) (h1 : n + 1 < l.length) (hb : l[n + 1] = 125) : tag l = l := by
  have hd : 0 < (l.drop (n + 1)).length := by simp; omega
  have := split_at (c := 125) hd (by simp) (by simpa using hb)
  unfold tag; rw [split_at h hn hc]; simp only; rw [this]; simp

theorem tag_found {l : List UInt8} {n m : Nat} (h : n < l.length) (hn : 123 ∉ l.take n) (hc : l[n] = 123) (h0 : n + 1 < m) (h1 : m < l.length) (hno : 125 ∉ (l.drop (n + 1)).take (m - (n + 1))) (hb : l[m] = 125) :
    tag l = (l.drop (n + 1)).take (m - (n + 1)) := by
  have hd : m - (n + 1) < (l.drop (n + 1)).length := by simp; omega
  have := split_at (c := 125) hd hno (by
    rw [List.getElem_drop]
    have e : n + 1 + (m - (n + 1)) = m := by omega
    simp only [e]; exact hb)
  unfold tag; rw [split_at h hn hc]; simp only; rw [this]; simp only
  rw [if_neg]
  intro he
  have := congrArg List.length he
  simp at this
  omega

theorem notin_drop_succ {c : UInt8} {l : List UInt8} {n m : Nat} (h0 : n ≤ m) (h1 : m < l.length) (hno : c ∉ (l.drop n).take (m - n)) (hb : l[m] ≠ c) : c ∉ (l.drop n).take (m + 1 - n) := by
  have hd : m - n < (l.drop n).length := by simp; omega
  have e : m + 1 - n = (m - n) + 1 := by omega
  rw [e]
  refine notin_succ hd hno ?_
  rw [List.getElem_drop]
  have e : n + (m - n) = m := by omega
  simp only [e]; exact hb

theorem tag_within {a t b : List UInt8} (ha : 123 ∉ a) (ht : 125 ∉ t) (h0 : t ≠ []) : tag (a ++ 123 :: (t ++ 125 :: b)) = t := by
  unfold tag
  rw [split_append ha]; simp only; rw [split_append ht]; simp [h0]

theorem tag_nothing {a b : List UInt8} (ha : 123 ∉ a) : tag (a ++ 123 :: 125 :: b) = a ++ 123 :: 125 :: b := by
  have : split 125 (125 :: b) = some ([], b) := by simp [split]
  unfold tag
  rw [split_append ha]; simp only; rw [this]; simp

theorem tag_noend {a t : List UInt8} (ha : 123 ∉ a) (ht : 125 ∉ t) : tag (a ++ 123 :: t) = a ++ 123 :: t := by
  unfold tag
  rw [split_append ha]; simp only; rw [split_absent ht]

theorem u8_eq {x : UInt8} {k : Nat} (hk : k < 256) (h : ((x.toNat : Int) == (k : Int)) = true) : x = UInt8.ofNat k := by
  have h1 : (x.toNat : Int) = k := by simpa using h
  have h2 : x.toNat = k := by omega
  apply UInt8.toNat_inj.1
  rw [h2]; simp; omega

theorem u8_ne {x : UInt8} {k : Nat} (hk : k < 256) (h : ((x.toNat : Int) == (k : Int)) = false) : x ≠ UInt8.ofNat k := by
  intro e
  subst e
  have h2 : (UInt8.ofNat k).toNat = k := by simp; omega
  rw [h2] at h
  simp at h

end Tags
end Go.Proofs.YtahmddopbmjepaaDoor
