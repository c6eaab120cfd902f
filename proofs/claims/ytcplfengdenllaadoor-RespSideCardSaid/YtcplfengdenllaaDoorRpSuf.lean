/- What the reader leaves is an end of what it was given. No program in it. -/
import Derived.Test.YtcplfengdenllaaDoorRpArray
namespace Go.Proofs.YtcplfengdenllaaDoor
namespace Rp

theorem IsSuf.drop (bs : List UInt8) (k : Nat) : IsSuf (bs.drop k) bs := ⟨k, rfl⟩
theorem IsSuf.tail (x : UInt8) (bs : List UInt8) : IsSuf bs (x :: bs) := ⟨1, rfl⟩

theorem endP_suf {α : Type} {a x : α} {bs t : List UInt8} (h : endP a bs = .ok x t) : IsSuf t bs := by
  cases bs with
  | nil => cases h
  | cons u l =>
    unfold endP at h
    cases l with
    | nil =>
      simp only at h
      split at h <;> cases h
    | cons v r =>
      simp only at h
      split at h
      · split at h
        · injection h with _ h
          exact ⟨2, h.symm⟩
        · cases h
      · cases h

theorem textP_suf {n : Nat} {bs t s : List UInt8} (h : textP n bs = .ok s t) : IsSuf t bs := by
  unfold textP at h
  split at h
  · cases h
  · exact (endP_suf h).trans (IsSuf.drop bs n)

theorem Out.map_ok {α β : Type} {f : α → β} {o : Out α} {y : β} {t : List UInt8} (h : o.map f = .ok y t) : ∃ x, o = .ok x t ∧ y = f x := by
  cases o with
  | ok x r =>
    injection h with h1 h2
    exact ⟨x, by rw [h2], h1.symm⟩
  | err e => cases h
theorem Out.bind_ok {α β : Type} {f : α → List UInt8 → Out β} {o : Out α} {y : β} {t : List UInt8} (h : o.bind f = .ok y t) : ∃ x r, o = .ok x r ∧ f x r = .ok y t := by
  cases o with
  | ok x r => exact ⟨x, r, rfl, h⟩
  | err e => cases h

theorem devP_suf {lo hi n : Int} {bs t : List UInt8} (h : devP lo hi bs = .ok n t) : IsSuf t bs := by
  unfold devP at h
  split at h
  · cases h
  · split at h
    · split at h
      · obtain ⟨x, hx, _⟩ := Out.map_ok h
        exact textP_suf hx
      · cases h
    · cases h

theorem lineP_suf {bs s t : List UInt8} (h : lineP bs = .ok s t) : IsSuf t bs := by
  unfold lineP at h
  dsimp only at h
  split at h
  · cases h
  · exact (endP_suf h).trans (IsSuf.drop bs _)

theorem bulkD_suf {bs t : List UInt8} {r : R} (h : bulkD bs = .ok r t) : IsSuf t bs := by
  obtain ⟨n, u, h1, h2⟩ := Out.bind_ok h
  split at h2
  · injection h2 with _ h2
    subst h2
    exact devP_suf h1
  · obtain ⟨s, hs, _⟩ := Out.map_ok h2
    exact (textP_suf hs).trans (devP_suf h1)

theorem manyP_suf {f : List UInt8 → Out R} (hf : ∀ b r t, f b = .ok r t → IsSuf t b) : ∀ {n : Nat} {bs t : List UInt8} {l : List R}, manyP f n bs = .ok l t → IsSuf t bs
  | 0, bs, t, l, h => by
    injection h with _ h
    subst h
    exact IsSuf.refl _
  | n + 1, bs, t, l, h => by
    obtain ⟨r, u, h1, h2⟩ := Out.bind_ok h
    obtain ⟨l', h3, _⟩ := Out.map_ok h2
    exact (manyP_suf hf h3).trans (hf _ _ _ h1)

theorem arrD_suf {f : List UInt8 → Out R} (hf : ∀ b r t, f b = .ok r t → IsSuf t b) {bs t : List UInt8} {r : R} (h : arrD f bs = .ok r t) : IsSuf t bs := by
  obtain ⟨n, u, h1, h2⟩ := Out.bind_ok h
  obtain ⟨l', h3, _⟩ := Out.map_ok h2
  exact (manyP_suf hf h3).trans (devP_suf h1)

theorem markD_suf {A : List UInt8 → Out R} (hA : ∀ b r t, A b = .ok r t → IsSuf t b) {bs t : List UInt8} {r : R} (h : markD A bs = .ok r t) : IsSuf t bs := by
  cases bs with
  | nil => cases h
  | cons x b =>
    refine IsSuf.trans ?_ (IsSuf.tail x b)
    simp only [markD] at h
    split at h
    · obtain ⟨s, hs, _⟩ := Out.map_ok h
      exact lineP_suf hs
    · split at h
      · obtain ⟨s, hs, _⟩ := Out.map_ok h
        exact lineP_suf hs
      · split at h
        · obtain ⟨s, hs, _⟩ := Out.map_ok h
          exact devP_suf hs
        · split at h
          · exact bulkD_suf h
          · split at h
            · exact hA _ _ _ h
            · cases h

theorem replyD_suf : ∀ (d : Nat) {bs t : List UInt8} {r : R}, replyD d bs = .ok r t → IsSuf t bs
  | 0, _, _, _, h => markD_suf (fun _ _ _ h => by cases h) h
  | d + 1, _, _, _, h => markD_suf (fun _ _ _ h => arrD_suf (fun _ _ _ h => replyD_suf d h) h) h
end Rp
end Go.Proofs.YtcplfengdenllaaDoor
