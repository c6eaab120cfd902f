/- What the statements' own Make makes of numbers, as plain data; that it is valid. No program in it. -/
import Derived.Test.YtdnonginlbjcoaaItMakePlain
namespace Go.Proofs.Ytdnonginlbjcoaa
namespace Mk
open It

/-- the text of a number. -/
def sOf (b : UInt8) : List UInt8 := UInt8.ofNat (97 + b.toNat % 5) :: Dig.dec ((b.toNat % 3 : Nat) : Int)
/-- the value of a number. -/
def vOf (b : UInt8) : List UInt8 := Dig.dec ((b.toNat : Int) - 100)
def sF (r : List UInt8) : List UInt8 := r.flatMap sOf
def fF (r : List UInt8) : List F := r.foldl (fun f b => hset f (sOf b) (vOf b)) []
def lF (r : List UInt8) : List (List UInt8) := r.map sOf
def aF (r : List UInt8) : List (List UInt8) := r.foldl (fun l b => sadd l (sOf b)) []
theorem sF_snoc (r : List UInt8) (b : UInt8) : sF (r ++ [b]) = sF r ++ sOf b := by simp [sF]
theorem fF_snoc (r : List UInt8) (b : UInt8) : fF (r ++ [b]) = hset (fF r) (sOf b) (vOf b) := by simp [fF, List.foldl_append]
theorem lF_snoc (r : List UInt8) (b : UInt8) : lF (r ++ [b]) = lF r ++ [sOf b] := by simp [lF]
theorem aF_snoc (r : List UInt8) (b : UInt8) : aF (r ++ [b]) = sadd (aF r) (sOf b) := by simp [aF, List.foldl_append]

def mkK (K e : Int) (r : List UInt8) : I :=
  if K = 1 then ⟨1, sF r, [], [], e⟩ else if K = 2 then ⟨2, [], fF r, [], e⟩ else if K = 3 then ⟨3, [], [], lF r, e⟩ else ⟨4, [], [], aF r, e⟩
def eOf (x : Int) : Int := if x % 3 = 0 then x else 0
def mk : List UInt8 → Int → I
  | [], _ => ⟨1, [], [], [], 0⟩
  | n :: r, x => if r = [] ∧ n.toNat % 4 ≠ 0 then ⟨1, Dig.dec (n.toNat : Int), [], [], eOf x⟩ else mkK (1 + ((n.toNat % 4 : Nat) : Int)) (eOf x) (r.take 8)

theorem small : (List.range 256).all (fun n => (sOf (UInt8.ofNat n)).length == 2 && decide ((vOf (UInt8.ofNat n)).length ≤ 4) && decide ((Dig.dec (n : Int)).length ≤ 3)) = true := by decide +kernel
theorem small_at (b : UInt8) : (sOf b).length = 2 ∧ (vOf b).length ≤ 4 ∧ (Dig.dec (b.toNat : Int)).length ≤ 3 := by
  have h := List.all_eq_true.1 small b.toNat (List.mem_range.2 (UInt8.toNat_lt b))
  simp only [Bool.and_eq_true, beq_iff_eq, decide_eq_true_eq, UInt8.ofNat_toNat] at h
  exact ⟨h.1.1, h.1.2, h.2⟩

theorem sF_len (r : List UInt8) : (sF r).length = 2 * r.length := by
  induction r with
  | nil => rfl
  | cons b r ih =>
    have := (small_at b).1
    simp only [sF, List.flatMap_cons, List.length_append, List.length_cons] at ih ⊢
    omega

/-- what is known of the fields, of the members. -/
def OkF (m : Nat) (f : List F) : Prop := upF f ∧ f.length ≤ m ∧ (0 < m → 0 < f.length) ∧ ∀ p ∈ f, p.1.length = 2 ∧ p.2.length ≤ 4
def OkA (m : Nat) (l : List (List UInt8)) : Prop := upS l ∧ l.length ≤ m ∧ (0 < m → 0 < l.length) ∧ ∀ p ∈ l, p.length = 2

theorem hset_ne (l : List F) (n v : List UInt8) (h : upF l) : 0 < (hset l n v).length := by
  obtain ⟨i1, i2, i3, i4⟩ := round_H n v l h
  unfold hset
  cases hb : (foldH n v l).2 with
  | false => simp
  | true =>
    rw [if_pos rfl]
    suffices H : ∀ m, m ≤ l.length → (foldH n v (l.take m)).2 = true → 0 < (foldH n v (l.take m)).1.length by
      have := H l.length (Nat.le_refl _)
      simpa [hb] using this
    intro m
    induction m with
    | zero => intro _ h; simp [foldH] at h
    | succ m ih =>
      intro hm hh
      have e : l.take (m + 1) = l.take m ++ [l[m]] := (List.take_append_getElem (by omega)).symm
      rw [e, foldH_snoc] at hh ⊢
      have ih' := ih (by omega)
      generalize foldH n v (l.take m) = q at *
      obtain ⟨out, b⟩ := q
      simp only at ih'
      cases b <;> by_cases h1 : (l[m]).1 < n <;> by_cases h2 : (l[m]).1 = n <;> simp [stepH, h1, h2] at hh ih' ⊢
      all_goals exact ih'
theorem sadd_ne (l : List (List UInt8)) (s : List UInt8) : 0 < (sadd l s).length := by
  unfold sadd
  split
  · rename_i h
    unfold hasB at h
    rw [List.any_eq_true] at h
    obtain ⟨t, ht, _⟩ := h
    exact List.length_pos_of_mem ht
  · simp; omega

theorem fF_ok (r : List UInt8) : OkF r.length (fF r) := by
  suffices H : ∀ m, m ≤ r.length → OkF m (fF (r.take m)) by simpa using H r.length (Nat.le_refl _)
  intro m
  induction m with
  | zero => intro _; exact ⟨List.Pairwise.nil, Nat.le_refl _, fun h => by omega, fun p hp => by simp [fF] at hp⟩
  | succ m ih =>
    intro hm
    have e : r.take (m + 1) = r.take m ++ [r[m]] := (List.take_append_getElem (by omega)).symm
    obtain ⟨h1, h2, h3, h4⟩ := ih (by omega)
    rw [e, fF_snoc]
    obtain ⟨u1, u2⟩ := hset_up (sOf r[m]) (vOf r[m]) _ h1
    have hl := hset_len (sOf r[m]) (vOf r[m]) (fF (r.take m))
    refine ⟨u1, by omega, fun _ => hset_ne _ _ _ h1, fun p hp => ?_⟩
    rcases u2 p hp with rfl | hp
    · exact ⟨(small_at _).1, (small_at _).2.1⟩
    · exact h4 p hp
theorem aF_ok (r : List UInt8) : OkA r.length (aF r) := by
  suffices H : ∀ m, m ≤ r.length → OkA m (aF (r.take m)) by simpa using H r.length (Nat.le_refl _)
  intro m
  induction m with
  | zero => intro _; exact ⟨List.Pairwise.nil, Nat.le_refl _, fun h => by omega, fun p hp => by simp [aF] at hp⟩
  | succ m ih =>
    intro hm
    have e : r.take (m + 1) = r.take m ++ [r[m]] := (List.take_append_getElem (by omega)).symm
    obtain ⟨h1, h2, h3, h4⟩ := ih (by omega)
    rw [e, aF_snoc]
    obtain ⟨u1, u2, u3⟩ := sadd_up (aF (r.take m)) (sOf r[m]) h1
    refine ⟨u1, by omega, fun _ => sadd_ne _ _, fun p hp => ?_⟩
    rcases u2 p hp with rfl | hp
    · exact (small_at _).1
    · exact h4 p hp

/-- another end of life. -/
def withE (i : I) (y : Int) : I := ⟨i.kind, i.s, i.f, i.l, y⟩
theorem withE_mkK (K e y : Int) (t : List UInt8) : withE (mkK K e t) y = mkK K y t := by
  unfold mkK withE
  split
  · rfl
  · split
    · rfl
    · split <;> rfl
theorem may_of (i : I) (h0 : 0 ≤ i.exp) (h1 : i.exp ≤ 9007199254740992) (hf : fitsB i = true) (ht : ∀ s ∈ textsS i, s.length ≤ 300) : mayB i = true := by
  unfold mayB
  rw [decide_eq_true h0, decide_eq_true h1, hf, List.all_eq_true.2 fun s hs => decide_eq_true (ht s hs)]
  rfl
/-- what is made may be. -/
theorem mk_may (ns : List UInt8) (x y : Int) (hy0 : 0 ≤ y) (hy : y ≤ 9007199254740992) : mayB (withE (mk ns x) y) = true := by
  cases ns with
  | nil => exact may_of _ hy0 hy rfl (fun s hs => by simp [withE, mk, textsS, fieldsS] at hs; subst hs; simp)
  | cons n r =>
    by_cases hr : r = [] ∧ n.toNat % 4 ≠ 0
    · rw [show mk (n :: r) x = ⟨1, Dig.dec (n.toNat : Int), [], [], eOf x⟩ from if_pos hr]
      have := (small_at n).2.2
      exact may_of _ hy0 hy rfl (fun s hs => by simp [withE, textsS, fieldsS] at hs; subst hs; omega)
    · rw [show mk (n :: r) x = mkK (1 + ((n.toNat % 4 : Nat) : Int)) (eOf x) (r.take 8) from if_neg hr, withE_mkK]
      have hlen : (r.take 8).length ≤ 8 := by rw [List.length_take]; omega
      have hpos : n.toNat % 4 ≠ 0 → 0 < (r.take 8).length := fun h => by
        cases r with
        | nil => exact absurd ⟨rfl, h⟩ hr
        | cons a r => simp
      generalize r.take 8 = t at *
      have hk : n.toNat % 4 = 0 ∨ n.toNat % 4 = 1 ∨ n.toNat % 4 = 2 ∨ n.toNat % 4 = 3 := by omega
      rcases hk with hk | hk | hk | hk
      · rw [hk]
        have := sF_len t
        exact may_of ⟨1, sF t, [], [], y⟩ hy0 hy rfl (fun s hs => by simp [textsS, fieldsS] at hs; subst hs; omega)
      · have hp := hpos (by omega)
        rw [hk]
        obtain ⟨u1, u2, u3, u4⟩ := fF_ok t
        have u3 := u3 hp
        have r1 : risB (names ⟨2, [], fF t, [], y⟩) = true := ris_of_upF u1
        refine may_of ⟨2, [], fF t, [], y⟩ hy0 hy ?_ (fun s hs => ?_)
        · simp only [fitsB, r1, countB]
          rw [decide_eq_true (show 1 ≤ (fF t).length by omega), decide_eq_true (show (fF t).length ≤ 40 by omega)]
          rfl
        · simp only [textsS, fieldsS, List.mem_cons, List.mem_append, List.mem_flatMap, List.not_mem_nil, or_false] at hs
          rcases hs with rfl | ⟨p, hp', rfl | rfl⟩
          · simp
          · have := u4 p hp'; omega
          · have := u4 p hp'; omega
      · have hp := hpos (by omega)
        rw [hk]
        have hl : (lF t).length = t.length := by simp [lF]
        refine may_of ⟨3, [], [], lF t, y⟩ hy0 hy ?_ (fun s hs => ?_)
        · simp only [fitsB, countB]
          rw [decide_eq_true (show 1 ≤ (lF t).length by omega), decide_eq_true (show (lF t).length ≤ 40 by omega)]
          rfl
        · simp only [textsS, fieldsS, List.flatMap_nil, List.nil_append, List.mem_cons, lF, List.mem_map] at hs
          rcases hs with rfl | ⟨b, _, rfl⟩
          · simp
          · have := (small_at b).1; omega
      · have hp := hpos (by omega)
        rw [hk]
        obtain ⟨u1, u2, u3, u4⟩ := aF_ok t
        have u3 := u3 hp
        have r1 : risB (aF t) = true := ris_of_up u1
        refine may_of ⟨4, [], [], aF t, y⟩ hy0 hy ?_ (fun s hs => ?_)
        · simp only [fitsB, r1, countB]
          rw [decide_eq_true (show 1 ≤ (aF t).length by omega), decide_eq_true (show (aF t).length ≤ 40 by omega)]
          rfl
        · simp only [textsS, fieldsS, List.flatMap_nil, List.nil_append, List.mem_cons] at hs
          rcases hs with rfl | hs
          · simp
          · have := u4 s hs; omega
end Mk
end Go.Proofs.Ytdnonginlbjcoaa
