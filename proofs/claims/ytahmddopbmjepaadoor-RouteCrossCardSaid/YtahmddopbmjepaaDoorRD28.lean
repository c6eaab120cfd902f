/- Plain: where claims and spans begin and end; a walk from mark to mark. -/
import Derived.Test.YtahmddopbmjepaaDoorRD22
import Derived.Test.YtahmddopbmjepaaDoorRD11
namespace Go.Proofs.YtahmddopbmjepaaDoor
namespace Ow

/-- where one claim begins and ends. -/
def stepC (m : List Int) (c : C) : List Int := Sp.mark (Sp.mark m c.f) (c.t + 1)
def marksC (m : List Int) (l : List C) : List Int := l.foldl stepC m
/-- where one span begins and ends. -/
def stepG (m : List Int) (s : Sp.S) : List Int := Sp.mark (Sp.mark m s.1) (s.2 + 1)
def marksG (m : List Int) (l : List Sp.S) : List Int := l.foldl stepG m

theorem marksC_snoc {l : List C} {k : Nat} (m : List Int) (hk : k < l.length) : marksC m (l.take (k + 1)) = stepC (marksC m (l.take k)) (l.getD k z) := by
  unfold marksC
  rw [List.take_succ_eq_append_getElem hk, List.foldl_append]
  simp [List.getD, hk]

theorem marksG_snoc {l : List Sp.S} {k : Nat} (m : List Int) (hk : k < l.length) : marksG m (l.take (k + 1)) = stepG (marksG m (l.take k)) (l.getD k (0, 0)) := by
  unfold marksG
  rw [List.take_succ_eq_append_getElem hk, List.foldl_append]
  simp [List.getD, hk]

theorem stepC_len (m : List Int) (c : C) : (stepC m c).length ≤ m.length + 2 := by
  have h1 := Sp.mark_len m c.f
  have h2 := Sp.mark_len (Sp.mark m c.f) (c.t + 1)
  unfold stepC; omega
theorem marksC_len : ∀ (l : List C) (m : List Int), (marksC m l).length ≤ m.length + 2 * l.length
  | [], m => by simp [marksC]
  | c :: r, m => by
    have h1 := marksC_len r (stepC m c)
    have h2 := stepC_len m c
    simp only [marksC, List.foldl_cons, List.length_cons] at h1 ⊢
    omega
theorem stepG_len (m : List Int) (c : Sp.S) : (stepG m c).length ≤ m.length + 2 := by
  have h1 := Sp.mark_len m c.1
  have h2 := Sp.mark_len (Sp.mark m c.1) (c.2 + 1)
  unfold stepG; omega
theorem marksG_len : ∀ (l : List Sp.S) (m : List Int), (marksG m l).length ≤ m.length + 2 * l.length
  | [], m => by simp [marksG]
  | c :: r, m => by
    have h1 := marksG_len r (stepG m c)
    have h2 := stepG_len m c
    simp only [marksG, List.foldl_cons, List.length_cons] at h1 ⊢
    omega

theorem marksC_sorted : ∀ (l : List C) {m : List Int}, m.Pairwise (· < ·) → (marksC m l).Pairwise (· < ·)
  | [], _, h => h
  | c :: r, m, h => marksC_sorted r (m := stepC m c) (Sp.mark_sorted (Sp.mark_sorted h))
theorem marksG_sorted : ∀ (l : List Sp.S) {m : List Int}, m.Pairwise (· < ·) → (marksG m l).Pairwise (· < ·)
  | [], _, h => h
  | c :: r, m, h => marksG_sorted r (m := stepG m c) (Sp.mark_sorted (Sp.mark_sorted h))

theorem marksC_mem : ∀ {l : List C} {m : List Int} {x : Int}, x ∈ marksC m l ↔ x ∈ m ∨ ∃ c ∈ l, 0 ≤ x ∧ x ≤ 16384 ∧ (x = c.f ∨ x = c.t + 1)
  | [], m, x => by simp [marksC]
  | c :: r, m, x => by
    have h1 := marksC_mem (l := r) (m := stepC m c) (x := x)
    have e : marksC m (c :: r) = marksC (stepC m c) r := rfl
    rw [e, h1]
    unfold stepC
    rw [Sp.mark_mem, Sp.mark_mem]
    constructor
    · rintro ((⟨rfl, h2, h3⟩ | ⟨rfl, h2, h3⟩ | h) | ⟨d, hd, h⟩)
      · exact .inr ⟨c, by simp, h2, h3, .inr rfl⟩
      · exact .inr ⟨c, by simp, h2, h3, .inl rfl⟩
      · exact .inl h
      · exact .inr ⟨d, by simp [hd], h⟩
    · rintro (h | ⟨d, hd, h2, h3, h4⟩)
      · exact .inl (.inr (.inr h))
      · rcases List.mem_cons.1 hd with rfl | hd
        · rcases h4 with rfl | rfl
          · exact .inl (.inr (.inl ⟨rfl, h2, h3⟩))
          · exact .inl (.inl ⟨rfl, h2, h3⟩)
        · exact .inr ⟨d, hd, h2, h3, h4⟩
theorem marksG_mem : ∀ {l : List Sp.S} {m : List Int} {x : Int}, x ∈ marksG m l ↔ x ∈ m ∨ ∃ c ∈ l, 0 ≤ x ∧ x ≤ 16384 ∧ (x = c.1 ∨ x = c.2 + 1)
  | [], m, x => by simp [marksG]
  | c :: r, m, x => by
    have h1 := marksG_mem (l := r) (m := stepG m c) (x := x)
    have e : marksG m (c :: r) = marksG (stepG m c) r := rfl
    rw [e, h1]
    unfold stepG
    rw [Sp.mark_mem, Sp.mark_mem]
    constructor
    · rintro ((⟨rfl, h2, h3⟩ | ⟨rfl, h2, h3⟩ | h) | ⟨d, hd, h⟩)
      · exact .inr ⟨c, by simp, h2, h3, .inr rfl⟩
      · exact .inr ⟨c, by simp, h2, h3, .inl rfl⟩
      · exact .inl h
      · exact .inr ⟨d, by simp [hd], h⟩
    · rintro (h | ⟨d, hd, h2, h3, h4⟩)
      · exact .inl (.inr (.inr h))
      · rcases List.mem_cons.1 hd with rfl | hd
        · rcases h4 with rfl | rfl
          · exact .inl (.inr (.inl ⟨rfl, h2, h3⟩))
          · exact .inl (.inl ⟨rfl, h2, h3⟩)
        · exact .inr ⟨d, hd, h2, h3, h4⟩

theorem own_congr : ∀ {l : List C} {j k : Int}, (∀ c ∈ l, inC j c = inC k c) → own l j = own l k
  | [], _, _, _ => rfl
  | c :: r, j, k, h => by
    have h1 := h c (by simp)
    simp only [own, h1]
    rw [own_congr fun d hd => h d (by simp [hd])]

theorem hasB_congr {l : List Sp.S} {j k : Int} (h0 : 0 ≤ j ∧ j < 16384) (h1 : 0 ≤ k ∧ k < 16384) (h : ∀ s ∈ l, (s.1 ≤ j ∧ j ≤ s.2) ↔ (s.1 ≤ k ∧ k ≤ s.2)) : Sp.hasB l j = Sp.hasB l k := by
  rw [Bool.eq_iff_iff, Sp.hasB_iff, Sp.hasB_iff]
  constructor
  · rintro ⟨_, _, s, hs, h2, h3⟩
    exact ⟨h1.1, h1.2, s, hs, (h s hs).1 ⟨h2, h3⟩⟩
  · rintro ⟨_, _, s, hs, h2, h3⟩
    exact ⟨h0.1, h0.2, s, hs, (h s hs).2 ⟨h2, h3⟩⟩

/-- marks hold where a function of the slots may turn. -/
structure Marks (M : List Int) (g : Int → Option O) : Prop where
  up : M.Pairwise (· < ·)
  rng : ∀ x ∈ M, 0 ≤ x ∧ x ≤ 16384
  same : ∀ i, i + 1 < M.length → ∀ k, M.getD i 0 ≤ k → k < M.getD (i + 1) 0 → g k = g (M.getD i 0)
  none : ∀ k, 0 ≤ k → k < 16384 → (∀ x ∈ M, k < x) ∨ (∀ x ∈ M, x ≤ k) → g k = none
  ok : ∀ k, 0 ≤ k → k < 16384 → okO (g k)

/-- between two marks side by side lies none. -/
theorem between {M : List Int} (hM : M.Pairwise (· < ·)) {i : Nat} (hi : i + 1 < M.length) {x k : Int} (hx : x ∈ M) (h1 : M.getD i 0 ≤ k) (h2 : k < M.getD (i + 1) 0) : (x ≤ k ↔ x ≤ M.getD i 0) := by
  obtain ⟨j, hj, rfl⟩ := List.mem_iff_getElem.1 hx
  have e1 : M.getD i 0 = M[i] := by simp [List.getD, show i < M.length by omega]
  have e2 : M.getD (i + 1) 0 = M[i + 1] := by simp [List.getD, hi]
  rw [e1] at h1 ⊢
  rw [e2] at h2
  have hp := List.pairwise_iff_getElem.1 hM
  constructor
  · intro h
    by_cases hji : j ≤ i
    · rcases Nat.eq_or_lt_of_le hji with rfl | h'
      · exact Int.le_refl _
      · exact Int.le_of_lt (hp j i hj (by omega) h')
    · by_cases hji2 : j = i + 1
      · subst hji2; omega
      · have := hp (i + 1) j hi hj (by omega)
        omega
  · intro h; omega

theorem step_up {M : List Int} (hM : M.Pairwise (· < ·)) {i : Nat} (hi : i + 1 < M.length) : M.getD i 0 < M.getD (i + 1) 0 := by
  have e1 : M.getD i 0 = M[i] := by simp [List.getD, show i < M.length by omega]
  have e2 : M.getD (i + 1) 0 = M[i + 1] := by simp [List.getD, hi]
  rw [e1, e2]
  exact List.pairwise_iff_getElem.1 hM i (i + 1) (by omega) hi (by omega)

theorem getD_mem {M : List Int} {i : Nat} (hi : i < M.length) : M.getD i 0 ∈ M := by
  have e1 : M.getD i 0 = M[i] := by simp [List.getD, hi]
  rw [e1]; exact List.getElem_mem hi

/-- the marks of claims suffice for who has a slot. -/
theorem own_same {l : List C} {M : List Int} (hM : M.Pairwise (· < ·)) (hc : ∀ c ∈ l, c.f ∈ M ∧ c.t + 1 ∈ M) {i : Nat} (hi : i + 1 < M.length) {k : Int} (h1 : M.getD i 0 ≤ k) (h2 : k < M.getD (i + 1) 0) : own l k = own l (M.getD i 0) := by
  refine own_congr fun c hcl => ?_
  have a := between hM hi (hc c hcl).1 h1 h2
  have b := between hM hi (hc c hcl).2 h1 h2
  rw [Bool.eq_iff_iff, inC_iff, inC_iff]
  constructor
  · rintro ⟨h3, h4⟩
    exact ⟨a.1 h3, by have := fun h => h4 |> fun _ => b.2 h; by_cases h : c.t + 1 ≤ M.getD i 0; · exact absurd (this h) (by omega)
                      · omega⟩
  · rintro ⟨h3, h4⟩
    exact ⟨a.2 h3, by by_cases h : c.t + 1 ≤ k; · exact absurd (b.1 h) (by omega)
                      · omega⟩

theorem own_out {l : List C} {M : List Int} (hc : ∀ c ∈ l, c.f ∈ M ∧ c.t + 1 ∈ M) {k : Int} (h : (∀ x ∈ M, k < x) ∨ (∀ x ∈ M, x ≤ k)) : own l k = none := by
  refine own_none fun c hcl => inC_not.2 ?_
  rcases h with h | h
  · exact .inl (h _ (hc c hcl).1)
  · exact .inr (by have := h _ (hc c hcl).2; omega)

theorem has_same {l : List Sp.S} {M : List Int} (hM : M.Pairwise (· < ·)) (hr : ∀ x ∈ M, 0 ≤ x ∧ x ≤ 16384) (hc : ∀ s ∈ l, s.1 ∈ M ∧ s.2 + 1 ∈ M) {i : Nat} (hi : i + 1 < M.length) {k : Int} (h1 : M.getD i 0 ≤ k) (h2 : k < M.getD (i + 1) 0) : Sp.hasB l k = Sp.hasB l (M.getD i 0) := by
  have r1 := hr _ (getD_mem (i := i) (by omega))
  have r2 := hr _ (getD_mem hi)
  have up := step_up hM hi
  refine hasB_congr ⟨by omega, by omega⟩ ⟨by omega, by omega⟩ fun s hs => ?_
  have a := between hM hi (hc s hs).1 h1 h2
  have b := between hM hi (hc s hs).2 h1 h2
  constructor
  · rintro ⟨h3, h4⟩
    refine ⟨a.1 h3, ?_⟩
    by_cases h : s.2 + 1 ≤ M.getD i 0
    · exact absurd (b.2 h) (by omega)
    · omega
  · rintro ⟨h3, h4⟩
    refine ⟨a.2 h3, ?_⟩
    by_cases h : s.2 + 1 ≤ k
    · exact absurd (b.1 h) (by omega)
    · omega

theorem has_out {l : List Sp.S} {M : List Int} (hc : ∀ s ∈ l, s.1 ∈ M ∧ s.2 + 1 ∈ M) {k : Int} (h : (∀ x ∈ M, k < x) ∨ (∀ x ∈ M, x ≤ k)) : Sp.hasB l k = false := by
  rw [Bool.eq_false_iff]
  intro hk
  obtain ⟨_, _, s, hs, h2, h3⟩ := Sp.hasB_iff.1 hk
  rcases h with h | h
  · have := h _ (hc s hs).1; omega
  · have := h _ (hc s hs).2; omega

/-- a list told up to a mark, and what is put behind it. -/
theorem Marks.start {M : List Int} {g : Int → Option O} (h : Marks M g) : Told g [] (M.getD 0 0) ∨ M = [] := by
  cases M with
  | nil => exact .inr rfl
  | cons x r =>
    left
    refine Told.nil _ _ fun k h0 h1 => ?_
    have hx := h.rng x (by simp)
    simp only [List.getD_cons_zero] at h1
    refine h.none k h0 (by omega) (.inl fun y hy => ?_)
    rcases List.mem_cons.1 hy with rfl | hy
    · exact h1
    · have := (List.pairwise_cons.1 h.up).1 y hy; omega

theorem Marks.stop {M : List Int} {g : Int → Option O} (h : Marks M g) {l : List C} {i : Nat} (hi : i < M.length) (hl : ¬ i + 1 < M.length) (ht : Told g l (M.getD i 0)) : Told g l 16384 := by
  have hr := h.rng _ (getD_mem hi)
  refine ht.skip hr.2 fun k h1 h2 => h.none k (by omega) h2 (.inr fun x hx => ?_)
  obtain ⟨j, hj, rfl⟩ := List.mem_iff_getElem.1 hx
  have e1 : M.getD i 0 = M[i] := by simp [List.getD, hi]
  rw [e1] at h1
  rcases Nat.lt_or_ge j i with h' | h'
  · have := List.pairwise_iff_getElem.1 h.up j i hj hi h'
    omega
  · obtain rfl : j = i := by omega
    exact h1

theorem Marks.empty {g : Int → Option O} (h : Marks [] g) : Told g [] 16384 := Told.nil _ _ fun k h0 h1 => h.none k h0 h1 (.inl (by simp))

theorem Marks.skip {M : List Int} {g : Int → Option O} (h : Marks M g) {l : List C} {i : Nat} (hi : i + 1 < M.length) (ht : Told g l (M.getD i 0)) (hn : g (M.getD i 0) = Option.none) : Told g l (M.getD (i + 1) 0) :=
  ht.skip (Int.le_of_lt (step_up h.up hi)) fun k h1 h2 => by rw [h.same i hi k h1 h2, hn]

theorem Marks.put {M : List Int} {g : Int → Option O} (h : Marks M g) {l : List C} {i : Nat} (hi : i + 1 < M.length) (ht : Told g l (M.getD i 0)) {o : O} (hn : g (M.getD i 0) = some o) : Told g (more l ⟨M.getD i 0, M.getD (i + 1) 0 - 1, o.1, o.2⟩) (M.getD (i + 1) 0) := by
  have r1 := h.rng _ (getD_mem (i := i) (by omega))
  have r2 := h.rng _ (getD_mem hi)
  have up := step_up h.up hi
  have ho := h.ok (M.getD i 0) r1.1 (by omega)
  rw [hn] at ho
  have := ht.more (m := M.getD (i + 1) 0 - 1) r1.1 (by omega) (by omega) (ho o rfl) fun k h1 h2 => by rw [h.same i hi k h1 (by omega), hn]
  rwa [show M.getD (i + 1) 0 - 1 + 1 = M.getD (i + 1) 0 by omega] at this

/-- the marks of claims and spans suffice for what Give says. -/
theorem marks_give {l : List C} {x : List Sp.S} {n e : Int} (hl : VL l) (hx : Sp.Valid x) (hn : 0 ≤ n ∧ n < 8 ∧ 1 ≤ e ∧ e ≤ 9007199254740992) :
    Marks (marksG (marksC [] l) x) (fun k => if Sp.hasB x k then some (n, e) else own l k) := by
  have hup : (marksG (marksC [] l) x).Pairwise (· < ·) := marksG_sorted x (marksC_sorted l List.Pairwise.nil)
  have hrng : ∀ y ∈ marksG (marksC [] l) x, 0 ≤ y ∧ y ≤ 16384 := fun y hy => by
    rcases marksG_mem.1 hy with h | ⟨_, _, h1, h2, _⟩
    · rcases marksC_mem.1 h with h | ⟨_, _, h1, h2, _⟩
      · simp at h
      · exact ⟨h1, h2⟩
    · exact ⟨h1, h2⟩
  have hc : ∀ c ∈ l, c.f ∈ marksG (marksC [] l) x ∧ c.t + 1 ∈ marksG (marksC [] l) x := fun c hc => by
    have := hl.all c hc
    unfold okC at this
    exact ⟨marksG_mem.2 (.inl (marksC_mem.2 (.inr ⟨c, hc, by omega, by omega, .inl rfl⟩))), marksG_mem.2 (.inl (marksC_mem.2 (.inr ⟨c, hc, by omega, by omega, .inr rfl⟩)))⟩
  have hs : ∀ s ∈ x, s.1 ∈ marksG (marksC [] l) x ∧ s.2 + 1 ∈ marksG (marksC [] l) x := fun s hs => by
    have := hx.1 s hs
    exact ⟨marksG_mem.2 (.inr ⟨s, hs, by omega, by omega, .inl rfl⟩), marksG_mem.2 (.inr ⟨s, hs, by omega, by omega, .inr rfl⟩)⟩
  refine ⟨hup, hrng, fun i hi k h1 h2 => ?_, fun k _ _ h => ?_, fun k _ _ => ?_⟩
  · show (if Sp.hasB x k then some (n, e) else own l k) = (if Sp.hasB x _ then some (n, e) else own l _)
    rw [own_same hup hc hi h1 h2, has_same hup hrng hs hi h1 h2]
  · show (if Sp.hasB x k then some (n, e) else own l k) = Option.none
    rw [own_out hc h, has_out hs h]
    rfl
  · show okO (if Sp.hasB x k then some (n, e) else own l k)
    split
    · intro p hp
      cases hp
      exact hn
    · exact okO_own hl k

/-- the marks of two lists of claims suffice for what Join says. -/
theorem marks_join {a b : List C} (ha : VL a) (hb : VL b) : Marks (marksC (marksC [] a) b) (fun k => joinO (own a k) (own b k)) := by
  have hup : (marksC (marksC [] a) b).Pairwise (· < ·) := marksC_sorted b (marksC_sorted a List.Pairwise.nil)
  have hrng : ∀ y ∈ marksC (marksC [] a) b, 0 ≤ y ∧ y ≤ 16384 := fun y hy => by
    rcases marksC_mem.1 hy with h | ⟨_, _, h1, h2, _⟩
    · rcases marksC_mem.1 h with h | ⟨_, _, h1, h2, _⟩
      · simp at h
      · exact ⟨h1, h2⟩
    · exact ⟨h1, h2⟩
  have hca : ∀ c ∈ a, c.f ∈ marksC (marksC [] a) b ∧ c.t + 1 ∈ marksC (marksC [] a) b := fun c hc => by
    have := ha.all c hc
    unfold okC at this
    exact ⟨marksC_mem.2 (.inl (marksC_mem.2 (.inr ⟨c, hc, by omega, by omega, .inl rfl⟩))), marksC_mem.2 (.inl (marksC_mem.2 (.inr ⟨c, hc, by omega, by omega, .inr rfl⟩)))⟩
  have hcb : ∀ c ∈ b, c.f ∈ marksC (marksC [] a) b ∧ c.t + 1 ∈ marksC (marksC [] a) b := fun c hc => by
    have := hb.all c hc
    unfold okC at this
    exact ⟨marksC_mem.2 (.inr ⟨c, hc, by omega, by omega, .inl rfl⟩), marksC_mem.2 (.inr ⟨c, hc, by omega, by omega, .inr rfl⟩)⟩
  refine ⟨hup, hrng, fun i hi k h1 h2 => ?_, fun k _ _ h => ?_, fun k _ _ => okW_join _ _ (okO_own ha k) (okO_own hb k)⟩
  · show joinO (own a k) (own b k) = joinO (own a _) (own b _)
    rw [own_same hup hca hi h1 h2, own_same hup hcb hi h1 h2]
  · show joinO (own a k) (own b k) = Option.none
    rw [own_out hca h, own_out hcb h]
    rfl

end Ow
end Go.Proofs.YtahmddopbmjepaaDoor
