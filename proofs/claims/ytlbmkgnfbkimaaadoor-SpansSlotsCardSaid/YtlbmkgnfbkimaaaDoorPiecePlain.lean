/- Plain: two valid lists gone through at once. -/
import Derived.Test.YtlbmkgnfbkimaaaDoorRunPlain
namespace Go.Proofs.YtlbmkgnfbkimaaaDoor
namespace Sp

/-- is the slot in the list, and up to where does that not change? -/
def stretchP (l : List S) (from_ : Int) : Bool × Int := match l with
  | [] => (false, 16383)
  | s :: _ => if from_ < s.1 then (false, s.1 - 1) else (true, s.2)

/-- without the first span, if that ends by the slot. -/
def behindP (l : List S) (last : Int) : List S := match l with
  | [] => []
  | s :: r => if s.2 ≤ last then r else s :: r

/-- what is left of a list from a slot on. -/
def Rest (A : Int → Bool) (l : List S) (n : Int) : Prop := Valid l ∧ (∀ s ∈ l, n ≤ s.2) ∧ ∀ k, n ≤ k → hasB l k = A k

theorem Rest.start (l : List S) (h : Valid l) : Rest (hasB l) l 0 := ⟨h, fun s hs => by have := h.1 s hs; omega, fun _ _ => rfl⟩

theorem valid_tail {s : S} {l : List S} (h : Valid (s :: l)) : Valid l := ⟨fun t ht => h.1 t (by simp [ht]), (List.pairwise_cons.1 h.2).2⟩

theorem hasB_cons (s : S) (l : List S) (n : Int) : hasB (s :: l) n = (inB n s || hasB l n) := by simp [hasB]

/-- behind the first span lies nothing up to it. -/
theorem tail_out {s : S} {l : List S} (h : Valid (s :: l)) {n : Int} (hn : n ≤ s.2 + 1) : hasB l n = false := by
  cases hb : hasB l n with
  | false => rfl
  | true =>
    obtain ⟨_, _, t, ht, h1, _⟩ := hasB_iff.1 hb
    have := (List.pairwise_cons.1 h.2).1 t ht
    omega

theorem stretch_ok {A : Int → Bool} {l : List S} {n : Int} (h : Rest A l n) (h0 : 0 ≤ n) (h1 : n < 16384) :
    n ≤ (stretchP l n).2 ∧ (stretchP l n).2 < 16384 ∧ ∀ k, n ≤ k → k ≤ (stretchP l n).2 → A k = (stretchP l n).1 := by
  obtain ⟨hv, he, hA⟩ := h
  cases l with
  | nil =>
    refine ⟨by simp [stretchP]; omega, by simp [stretchP], fun k hk _ => ?_⟩
    rw [← hA k hk]; simp [hasB, stretchP]
  | cons s r =>
    have hs := hv.1 s (by simp)
    have hs2 := he s (by simp)
    unfold stretchP
    by_cases hf : n < s.1
    · simp only [if_pos hf]
      refine ⟨by omega, by omega, fun k hk hk2 => ?_⟩
      rw [← hA k hk, hasB_cons, tail_out hv (by omega), inB_iff (by omega) (by omega)]
      simp; omega
    · simp only [if_neg hf]
      refine ⟨by omega, by omega, fun k hk hk2 => ?_⟩
      rw [← hA k hk, hasB_cons, inB_iff (by omega) (by omega)]
      simp; left; omega

theorem behind_ok {A : Int → Bool} {l : List S} {n m : Int} (h : Rest A l n) (h1 : n ≤ m) (h2 : m ≤ (stretchP l n).2) : Rest A (behindP l m) (m + 1) := by
  obtain ⟨hv, he, hA⟩ := h
  cases l with
  | nil => exact ⟨hv, by simp [behindP], fun k hk => by rw [← hA k (by omega)]; rfl⟩
  | cons s r =>
    have hs := hv.1 s (by simp)
    have hs2 := he s (by simp)
    unfold behindP
    unfold stretchP at h2
    by_cases hm : s.2 ≤ m
    · simp only [if_pos hm]
      have hm2 : m = s.2 := by
        by_cases hf : n < s.1
        · simp only [if_pos hf] at h2; omega
        · simp only [if_neg hf] at h2; omega
      refine ⟨valid_tail hv, fun t ht => ?_, fun k hk => ?_⟩
      · have := (List.pairwise_cons.1 hv.2).1 t ht
        have := hv.1 t (by simp [ht])
        omega
      · rw [← hA k (by omega), hasB_cons]
        have : inB k s = false := by
          cases hb : inB k s with
          | false => rfl
          | true => simp [inB] at hb; omega
        rw [this]; rfl
    · simp only [if_neg hm]
      refine ⟨hv, fun t ht => ?_, fun k hk => hA k (by omega)⟩
      rw [List.mem_cons] at ht
      rcases ht with rfl | ht
      · omega
      · have := (List.pairwise_cons.1 hv.2).1 t ht
        have := hv.1 t (by simp [ht])
        omega

/-- a piece: side by side slots on the same sides. -/
abbrev PV := V × Bool × Bool

/-- so far gone through: pieces side by side from 0 up to a slot. -/
inductive PC (A B : Int → Bool) : List PV → Int → Prop
  | nil : PC A B [] 0
  | snoc {pre : List PV} (p : PV) : PC A B pre p.1.1.1 → (∀ k, p.1.1.1 ≤ k → k ≤ p.1.1.2 → A k = p.2.1 ∧ B k = p.2.2) → PC A B (pre ++ [p]) (p.1.1.2 + 1)

theorem PC.len {A B : Int → Bool} {pre : List PV} {n : Int} (h : PC A B pre n) : (pre.length : Int) ≤ n ∧ 0 ≤ n := by
  induction h with
  | nil => simp
  | snoc p _ _ ih =>
    have := p.1.2
    simp; omega

/-- the wanted ones. -/
def keepP (want : Bool → Bool → Bool) (xs : List PV) : List V := (xs.filter fun p => want p.2.1 p.2.2).map (·.1)

theorem keepP_snoc (want : Bool → Bool → Bool) (xs : List PV) (p : PV) : keepP want (xs ++ [p]) = keepP want xs ++ (if want p.2.1 p.2.2 then [p.1] else []) := by
  unfold keepP
  rw [List.filter_append, List.map_append]
  congr 1
  by_cases h : want p.2.1 p.2.2 = true <;> simp [h]

theorem hasB_app (l r : List S) (n : Int) : hasB (l ++ r) n = (hasB l n || hasB r n) := hasB_append l r n

/-- the wanted pieces say the wanted slots, rising. -/
theorem PC.keep {A B : Int → Bool} {want : Bool → Bool → Bool} {pre : List PV} {n : Int} (h : PC A B pre n) :
    (∀ k, hasB (bare (keepP want pre)) k = (decide (0 ≤ k ∧ k < n) && want (A k) (B k))) ∧ (keepP want pre).Pairwise (fun s t => s.1.1 ≤ t.1.1) ∧ (∀ s ∈ keepP want pre, s.1.2 < n) := by
  induction h with
  | nil =>
    refine ⟨fun k => ?_, by simp [keepP], by simp [keepP]⟩
    have : ¬ (0 ≤ k ∧ k < 0) := by omega
    simp [keepP, bare, hasB, this]
  | @snoc pre p hp hk ih =>
    obtain ⟨i1, i2, i3⟩ := ih
    have hb := p.1.2
    have hl := PC.len hp
    rw [keepP_snoc]
    by_cases hw : want p.2.1 p.2.2 = true
    · rw [if_pos hw]
      refine ⟨fun k => ?_, ?_, ?_⟩
      · rw [show bare (keepP want pre ++ [p.1]) = bare (keepP want pre) ++ [p.1.1] by simp [bare], hasB_app, i1, hasB_one]
        by_cases h1 : p.1.1.1 ≤ k ∧ k ≤ p.1.1.2
        · have := hk k h1.1 h1.2
          rw [this.1, this.2, hw]
          simp [h1]; omega
        · have e : decide (0 ≤ k ∧ k < p.1.1.1) = decide (0 ≤ k ∧ k < p.1.1.2 + 1) := by
            apply decide_eq_decide.2; omega
          rw [e, decide_eq_false h1, Bool.or_false]
      · rw [List.pairwise_append]
        refine ⟨i2, by simp, fun s hs t ht => ?_⟩
        simp at ht
        subst ht
        have := i3 s hs
        have := s.2
        omega
      · intro s hs
        rw [List.mem_append] at hs
        rcases hs with hs | hs
        · have := i3 s hs; omega
        · simp at hs; subst hs; omega
    · rw [if_neg hw, List.append_nil]
      refine ⟨fun k => ?_, i2, fun s hs => by have := i3 s hs; omega⟩
      rw [i1]
      by_cases h1 : p.1.1.1 ≤ k ∧ k ≤ p.1.1.2
      · have := hk k h1.1 h1.2
        have hw' : want p.2.1 p.2.2 = false := by simpa using hw
        rw [this.1, this.2, hw']
        simp
      · have e : decide (0 ≤ k ∧ k < p.1.1.1) = decide (0 ≤ k ∧ k < p.1.1.2 + 1) := by
          apply decide_eq_decide.2; omega
        rw [e]

end Sp
end Go.Proofs.YtlbmkgnfbkimaaaDoor
