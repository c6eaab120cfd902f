/- What was read is what stands there: replyD d b = ok r t gives b = enc r ++ t. -/
import Derived.Test.YtcjbfgkmpoebgaaDoorRpArray
import Derived.Test.YtcjbfgkmpoebgaaDoorRpEnc
namespace Go.Proofs.YtcjbfgkmpoebgaaDoor

namespace Rp
theorem endP_inv {α : Type} {a x : α} {bs t : List UInt8} (h : endP a bs = .ok x t) : x = a ∧ bs = crlf ++ t := by
  match bs, h with
  | [], h => cases h
  | [y], h =>
    rw [endP] at h
    by_cases e : y = 13
    · rw [if_pos e] at h; cases h
    · rw [if_neg e] at h; cases h
  | y :: z :: u, h =>
    rw [endP] at h
    by_cases e : y = 13
    · rw [if_pos e] at h
      by_cases e2 : z = 10
      · simp only [if_pos e2] at h
        injection h with h1 h2
        subst e e2 h1 h2
        exact ⟨rfl, rfl⟩
      · simp only [if_neg e2] at h
        cases h
    · rw [if_neg e] at h; cases h

theorem textP_inv {n : Nat} {bs s t : List UInt8} (h : textP n bs = .ok s t) : bs = s ++ crlf ++ t ∧ s = bs.take n ∧ s.length = n := by
  unfold textP at h
  split at h
  · cases h
  · obtain ⟨h1, h2⟩ := endP_inv h
    refine ⟨?_, h1, by rw [h1, List.length_take]; omega⟩
    rw [h1, List.append_assoc, ← h2, List.take_append_drop]

theorem lineP_inv {bs s t : List UInt8} (h : lineP bs = .ok s t) : bs = s ++ crlf ++ t := by
  unfold lineP at h
  simp only at h
  split at h
  · cases h
  · obtain ⟨h1, h2⟩ := endP_inv h
    have h3 : bs.take (bs.takeWhile fun b => b != 13 && b != 10).length = bs.takeWhile fun b => b != 13 && b != 10 := List.prefix_iff_eq_take.1 (List.takeWhile_prefix _) |>.symm
    rw [h1, List.append_assoc, ← h2]
    conv => lhs; rw [← List.take_append_drop (bs.takeWhile fun b => b != 13 && b != 10).length bs, h3]

theorem lead_take (bs : List UInt8) : bs.take (lead bs).length = lead bs := by
  have h1 : (lead bs) <+: bs := (List.takeWhile_prefix _).trans (List.take_prefix _ _)
  exact (List.prefix_iff_eq_take.1 h1).symm

theorem devP_inv {lo hi v : Int} {bs t : List UInt8} (h : devP lo hi bs = .ok v t) : bs = Dig.dec v ++ crlf ++ t ∧ lo ≤ v ∧ v ≤ hi := by
  unfold devP at h
  split at h
  · cases h
  · split at h
    · split at h
      · rename_i hd
        cases htx : textP (lead bs).length bs with
        | err e => rw [htx] at h; cases h
        | ok s u =>
          rw [htx] at h
          injection h with h1 h2
          subst h1 h2
          obtain ⟨h3, h4, _⟩ := textP_inv htx
          rw [lead_take, ← hd.1] at h4
          exact ⟨by rw [← h4]; exact h3, hd.2.1, hd.2.2⟩
      · cases h
    · cases h

theorem bulkD_inv {bs t : List UInt8} {r : R} (h : bulkD bs = .ok r t) : 36 :: bs = enc r ++ t := by
  unfold bulkD at h
  cases hd : devP (-1) 1048576 bs with
  | err e => rw [hd] at h; cases h
  | ok n u =>
    rw [hd] at h
    obtain ⟨h1, h2, h3⟩ := devP_inv hd
    simp only [Out.bind] at h
    split at h
    · injection h with h4 h5
      subst h4 h5
      obtain rfl : n = -1 := by omega
      rw [h1]
      simp [enc, encL, own, crlf]
    · cases htx : textP n.toNat u with
      | err e => rw [htx] at h; cases h
      | ok s w =>
        rw [htx] at h
        injection h with h4 h5
        subst h4 h5
        obtain ⟨h6, _, h8⟩ := textP_inv htx
        have e : n = (s.length : Int) := by omega
        rw [h1, h6, e]
        simp [enc, encL, own, crlf]

theorem manyP_inv {f : List UInt8 → Out R} (hf : ∀ b r t, f b = .ok r t → b = enc r ++ t) : ∀ (n : Nat) (bs t : List UInt8) (l : List R), manyP f n bs = .ok l t → l.length = n ∧ bs = encL l ++ t
  | 0, bs, t, l, h => by
    injection h with h1 h2
    subst h1 h2
    exact ⟨rfl, rfl⟩
  | n + 1, bs, t, l, h => by
    unfold manyP at h
    cases h1 : f bs with
    | err e => rw [h1] at h; cases h
    | ok r u =>
      rw [h1] at h
      simp only [Out.bind] at h
      cases h2 : manyP f n u with
      | err e => rw [h2] at h; cases h
      | ok l' w =>
        rw [h2] at h
        injection h with h3 h4
        rw [← h3, ← h4]
        obtain ⟨h5, h6⟩ := manyP_inv hf n u w l' h2
        refine ⟨by simp [h5], ?_⟩
        rw [hf bs r u h1, h6, encL, List.append_assoc]

theorem arrD_inv {f : List UInt8 → Out R} (hf : ∀ b r t, f b = .ok r t → b = enc r ++ t) {bs t : List UInt8} {r : R} (h : arrD f bs = .ok r t) : 42 :: bs = enc r ++ t := by
  unfold arrD at h
  cases hd : devP 0 65536 bs with
  | err e => rw [hd] at h; cases h
  | ok n u =>
    rw [hd] at h
    obtain ⟨h1, h2, h3⟩ := devP_inv hd
    simp only [Out.bind] at h
    cases hm : manyP f n.toNat u with
    | err e => rw [hm] at h; cases h
    | ok l w =>
      rw [hm] at h
      injection h with h4 h5
      subst h4 h5
      obtain ⟨h6, h7⟩ := manyP_inv hf _ _ _ _ hm
      have e : n = (l.length : Int) := by omega
      rw [h1, h7, e]
      simp [enc, own, crlf]

theorem markD_inv {A : List UInt8 → Out R} (hA : ∀ b r t, A b = .ok r t → 42 :: b = enc r ++ t) {bs t : List UInt8} {r : R} (h : markD A bs = .ok r t) : bs = enc r ++ t := by
  cases bs with
  | nil => cases h
  | cons x u =>
    rw [markD] at h
    split at h
    · rename_i e
      cases hl : lineP u with
      | err c => rw [hl] at h; cases h
      | ok s w =>
        rw [hl] at h
        injection h with h1 h2
        rw [← h1, ← h2, e, lineP_inv hl]
        simp [enc, encL, own, crlf]
    split at h
    · rename_i e
      cases hl : lineP u with
      | err c => rw [hl] at h; cases h
      | ok s w =>
        rw [hl] at h
        injection h with h1 h2
        rw [← h1, ← h2, e, lineP_inv hl]
        simp [enc, encL, own, crlf]
    split at h
    · rename_i e
      cases hl : devP (-9223372036854775808) 9223372036854775807 u with
      | err c => rw [hl] at h; cases h
      | ok n w =>
        rw [hl] at h
        injection h with h1 h2
        rw [← h1, ← h2, e, (devP_inv hl).1]
        simp [enc, encL, own, crlf]
    split at h
    · rename_i e
      rw [e]
      exact bulkD_inv h
    split at h
    · rename_i e
      rw [e]
      exact hA _ _ _ h
    · cases h

theorem replyD_inv : ∀ (d : Nat) (b : List UInt8) (r : R) (t : List UInt8), replyD d b = .ok r t → b = enc r ++ t
  | 0, b, r, t, h => by
    rw [replyD] at h
    exact markD_inv (fun _ _ _ h => by cases h) h
  | d + 1, b, r, t, h => by
    rw [replyD] at h
    exact markD_inv (fun _ _ _ h => arrD_inv (replyD_inv d) h) h
end Rp
end Go.Proofs.YtcjbfgkmpoebgaaDoor
