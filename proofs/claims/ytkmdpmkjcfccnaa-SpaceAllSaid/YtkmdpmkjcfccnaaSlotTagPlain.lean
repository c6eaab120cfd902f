/- Plain mathematics of the tag of chapter 1: what stands between the first opening brace and the first closing brace behind it. No program in it. -/
import Derived.Lib.Bytealg
namespace Go.Proofs.Ytkmdpmkjcfccnaa
namespace Tags

/-- a list of bytes parted at the first c. -/
def split (c : UInt8) : List UInt8 → Option (List UInt8 × List UInt8)
  | [] => none
  | x :: r => if x = c then some ([], r) else (split c r).map fun p => (x :: p.1, p.2)

def tag (k : List UInt8) : List UInt8 :=
  match split 123 k with
  | none => k
  | some p =>
    match split 125 p.2 with
    | none => k
    | some q => if q.1 = [] then k else q.1

theorem split_some {c : UInt8} : ∀ {l a b : List UInt8}, split c l = some (a, b) → l = a ++ c :: b ∧ c ∉ a ∧ Lib.indexByte l c = a.length
  | [], a, b, h => by simp [split] at h
  | x :: r, a, b, h => by
    simp only [split] at h
    by_cases hx : x = c
    · subst hx
      simp at h
      obtain ⟨rfl, rfl⟩ := h
      simp [Lib.indexByte]
    · rw [if_neg hx] at h
      cases hr : split c r with
      | none => simp [hr] at h
      | some p =>
        obtain ⟨a', b'⟩ := p
        simp [hr] at h
        obtain ⟨rfl, rfl⟩ := h
        obtain ⟨h1, h2, h3⟩ := split_some hr
        refine ⟨by rw [h1]; rfl, ?_, ?_⟩
        · intro hm
          rcases List.mem_cons.1 hm with h | h
          · exact hx h.symm
          · exact h2 h
        · unfold Lib.indexByte
          have : (x == c) = false := by simpa using hx
          rw [this, h3]
          have h4 : ((a'.length : Int) == -1) = false := by
            rw [beq_eq_false_iff_ne]; omega
          simp [h4]

theorem split_none {c : UInt8} : ∀ {l : List UInt8}, split c l = none → c ∉ l ∧ Lib.indexByte l c = -1
  | [], _ => by simp [Lib.indexByte]
  | x :: r, h => by
    simp only [split] at h
    by_cases hx : x = c
    · rw [if_pos hx] at h; simp at h
    · rw [if_neg hx] at h
      have hr : split c r = none := by
        cases hr : split c r with
        | none => rfl
        | some p => simp [hr] at h
      obtain ⟨h1, h2⟩ := split_none hr
      refine ⟨?_, ?_⟩
      · intro hm
        rcases List.mem_cons.1 hm with h | h
        · exact hx h.symm
        · exact h1 h
      · unfold Lib.indexByte
        have : (x == c) = false := by simpa using hx
        rw [this, h2]; rfl

theorem split_append {c : UInt8} {a b : List UInt8} (h : c ∉ a) : split c (a ++ c :: b) = some (a, b) := by
  induction a with
  | nil => simp [split]
  | cons x a ih =>
    have hx : x ≠ c := fun e => h (by simp [e])
    have ha : c ∉ a := fun e => h (by simp [e])
    simp [split, hx, ih ha]

theorem split_absent {c : UInt8} {l : List UInt8} (h : c ∉ l) : split c l = none := by
  induction l with
  | nil => rfl
  | cons x a ih =>
    have hx : x ≠ c := fun e => h (by simp [e])
    have ha : c ∉ a := fun e => h (by simp [e])
    simp [split, hx, ih ha]

theorem tag_len (k : List UInt8) : (tag k).length ≤ k.length := by
  unfold tag
  split
  · exact Nat.le_refl _
  · rename_i p hp
    split
    · exact Nat.le_refl _
    · rename_i q hq
      split
      · exact Nat.le_refl _
      · have h1 := (split_some (a := p.1) (b := p.2) hp).1
        have h2 := (split_some (a := q.1) (b := q.2) hq).1
        have h3 := congrArg List.length h1
        have h4 := congrArg List.length h2
        simp at h3 h4
        omega

theorem split_at {c : UInt8} {l : List UInt8} {n : Nat} (h : n < l.length) (hn : c ∉ l.take n) (hc : l[n] = c) : split c l = some (l.take n, l.drop (n + 1)) := by
  have e : l = l.take n ++ c :: l.drop (n + 1) := by
    rw [← hc, List.getElem_cons_drop, List.take_append_drop]
  have := split_append (b := l.drop (n + 1)) hn
  rw [← e] at this
  exact this

theorem notin_succ {c : UInt8} {l : List UInt8} {n : Nat} (h : n < l.length) (hn : c ∉ l.take n) (hc : l[n] ≠ c) : c ∉ l.take (n + 1) := by
  rw [List.take_succ_eq_append_getElem h]
  intro hm
  rcases List.mem_append.1 hm with h1 | h1
  · exact hn h1
  · simp at h1; exact hc h1.symm

theorem tag_no {l : List UInt8} (h : 123 ∉ l) : tag l = l := by
  unfold tag; rw [split_absent h]

theorem tag_open {l : List UInt8} {n : Nat} (h : n < l.length) (hn : 123 ∉ l.take n) (hc : l[n] = 123) (hb : 125 ∉ l.drop (n + 1)) : tag l = l := by
  unfold tag; rw [split_at h hn hc]; simp only; rw [split_absent hb]

theorem tag_empty {l : List UInt8} {n : Nat} (h : n < l.length) (hn : 123 ∉ l.take n) (hc : l[n] = 123) (h1 : n + 1 < l.length) (hb : l[n + 1] = 125) : tag l = l := by
  have hd : 0 < (l.drop (n + 1)).length := by simp; omega
  have := split_at (c := 125) hd (by simp) (by simpa using hb)
  unfold tag; rw [split_at h hn hc]; simp only; rw [this]; simp

theorem tag_found {l : List UInt8} {n m : Nat} (h : n < l.length) (hn : 123 ∉ l.take n) (hc : l[n] = 123) (h0 : n + 1 < m) (h1 : m < l.length) (hno : 125 ∉ (l.drop (n + 1)).take (m - (n + 1))) (hb : l[m] = 125) :
    tag l = (l.drop (n + 1)).take (m - (n + 1)) := by
  have hd : m - (n + 1) < (l.drop (n + 1)).length := by simp; omega
  have := split_at (c := 125) hd hno (by
    rw [List.getElem_drop]
    have e : n + 1 + (m - (n + 1)) = m := by omega
    simp only [e]; exact hb)
  unfold tag; rw [split_at h hn hc]; simp only; rw [this]; simp only
  rw [if_neg]
  intro he
  have := congrArg List.length he
  simp at this
  omega

theorem notin_drop_succ {c : UInt8} {l : List UInt8} {n m : Nat} (h0 : n ≤ m) (h1 : m < l.length) (hno : c ∉ (l.drop n).take (m - n)) (hb : l[m] ≠ c) : c ∉ (l.drop n).take (m + 1 - n) := by
  have hd : m - n < (l.drop n).length := by simp; omega
  have e : m + 1 - n = (m - n) + 1 := by omega
  rw [e]
  refine notin_succ hd hno ?_
  rw [List.getElem_drop]
  have e : n + (m - n) = m := by omega
  simp only [e]; exact hb

theorem tag_within {a t b : List UInt8} (ha : 123 ∉ a) (ht : 125 ∉ t) (h0 : t ≠ []) : tag (a ++ 123 :: (t ++ 125 :: b)) = t := by
  unfold tag
  rw [split_append ha]; simp only; rw [split_append ht]; simp [h0]

theorem tag_nothing {a b : List UInt8} (ha : 123 ∉ a) : tag (a ++ 123 :: 125 :: b) = a ++ 123 :: 125 :: b := by
  have : split 125 (125 :: b) = some ([], b) := by simp [split]
  unfold tag
  rw [split_append ha]; simp only; rw [this]; simp

theorem tag_noend {a t : List UInt8} (ha : 123 ∉ a) (ht : 125 ∉ t) : tag (a ++ 123 :: t) = a ++ 123 :: t := by
  unfold tag
  rw [split_append ha]; simp only; rw [split_absent ht]

theorem u8_eq {x : UInt8} {k : Nat} (hk : k < 256) (h : ((x.toNat : Int) == (k : Int)) = true) : x = UInt8.ofNat k := by
  have h1 : (x.toNat : Int) = k := by simpa using h
  have h2 : x.toNat = k := by omega
  apply UInt8.toNat_inj.1
  rw [h2]; simp; omega

theorem u8_ne {x : UInt8} {k : Nat} (hk : k < 256) (h : ((x.toNat : Int) == (k : Int)) = false) : x ≠ UInt8.ofNat k := by
  intro e
  subst e
  have h2 : (UInt8.ofNat k).toNat = k := by simp; omega
  rw [h2] at h
  simp at h

end Tags
end Go.Proofs.Ytkmdpmkjcfccnaa
