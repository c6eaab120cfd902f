/- Plain mathematics: the runs of parts that come by rising From are the valid list of the same slots. No program in it. -/
import Derived.Test.YtchladbjhodkoaaSeqPlain
import Derived.Test.YtchladbjhodkoaaSpMixPlain
namespace Go.Proofs.Ytchladbjhodkoaa
namespace Sp

/-- the bare spans. -/
abbrev bare (l : List V) : List S := l.map (·.1)

theorem inB_v {n : Int} (p : V) : inB n p.1 = decide (p.1.1 ≤ n ∧ n ≤ p.1.2) := by
  have := p.2
  unfold inB
  by_cases h : p.1.1 ≤ n ∧ n ≤ p.1.2
  · have h0 : 0 ≤ n := by omega
    have h1 : n < 16384 := by omega
    simp [h, h0, h1]
  · rw [decide_eq_false h]
    by_cases h1 : p.1.1 ≤ n
    · have h2 : ¬ n ≤ p.1.2 := fun h2 => h ⟨h1, h2⟩
      simp [h2]
    · simp [h1]

theorem hasB_one (p : V) (n : Int) : hasB [p.1] n = decide (p.1.1 ≤ n ∧ n ≤ p.1.2) := by simp [hasB, inB_v]

/-- what holds of the runs of parts that come by rising From. -/
structure JOk (l : List V) : Prop where
  valid : Valid (bare (joinL l))
  same : ∀ n, hasB (bare (joinL l)) n = hasB (bare l) n
  last : ∀ r, (jst l).2 = some r → ∃ x ∈ l, r.1.1 = x.1.1
  open' : (jst l).2 = none → l = []

theorem jok : ∀ l : List V, l.Pairwise (fun s t => s.1.1 ≤ t.1.1) → JOk l := by
  intro l
  induction l using snoc_ind with
  | h0 => exact fun _ => ⟨⟨by simp [joinL, jst_nil], by simp [joinL, jst_nil]⟩, fun n => by simp [joinL, jst_nil], fun r h => by simp [jst_nil] at h, fun _ => rfl⟩
  | hs l p ih =>
    intro hp
    rw [List.pairwise_append] at hp
    obtain ⟨hl, -, hlast⟩ := hp
    have hle : ∀ x ∈ l, x.1.1 ≤ p.1.1 := fun x hx => hlast x hx p (by simp)
    obtain ⟨iv, is, il, io⟩ := ih hl
    cases hst : (jst l).2 with
    | none =>
      obtain rfl := io hst
      have e : jst ([] ++ [p]) = ([], some p) := by simp [jst, jstep]
      rw [List.nil_append] at e ⊢
      refine ⟨?_, ?_, ?_, ?_⟩
      · have hpp := p.2
        simp only [joinL, e]
        exact ⟨by simp; omega, by simp⟩
      · intro n; simp [joinL, e]
      · intro r hr; rw [e] at hr; simp at hr; subst hr; exact ⟨p, by simp, rfl⟩
      · intro h; rw [e] at h; simp at h
    | some r =>
      obtain ⟨x, hx, hrx⟩ := il r hst
      have hrp : r.1.1 ≤ p.1.1 := hrx ▸ hle x hx
      rw [joinL_some hst] at iv is
      have iv' : Valid (bare (jst l).1 ++ [r.1]) := by simpa using iv
      obtain ⟨v1, v2, v3, v4, v5⟩ := valid_snoc.1 iv'
      have hpp := p.2
      have hrr := r.2
      by_cases h : p.1.1 ≤ r.1.2 + 1
      · have e : jst (l ++ [p]) = ((jst l).1, some (jn r p)) := by rw [jst_snoc]; simp [jstep, hst, h]
        have ej : joinL (l ++ [p]) = (jst l).1 ++ [jn r p] := by simp [joinL, e]
        refine ⟨?_, ?_, ?_, ?_⟩
        · rw [ej]
          have : Valid (bare (jst l).1 ++ [(jn r p).1]) := valid_snoc.2 ⟨v1, (jn r p).2.1, (jn r p).2.2.1, (jn r p).2.2.2, v5⟩
          simpa using this
        · intro n
          have h1 := is n
          rw [ej]
          simp only [bare, List.map_append, List.map_cons, List.map_nil, hasB_append, hasB_one] at h1 ⊢
          rw [← h1, Bool.or_assoc]
          congr 1
          rw [Bool.eq_iff_iff]
          rw [decide_eq_true_iff, Bool.or_eq_true, decide_eq_true_iff, decide_eq_true_iff, show (jn r p).1.1 = r.1.1 from rfl, show (jn r p).1.2 = max r.1.2 p.1.2 from rfl]
          constructor
          · rintro ⟨a1, a2⟩; by_cases a3 : n ≤ r.1.2
            · exact .inl ⟨a1, a3⟩
            · exact .inr ⟨by omega, by omega⟩
          · rintro (⟨a1, a2⟩ | ⟨a1, a2⟩) <;> exact ⟨by omega, by omega⟩
        · intro r' hr'
          rw [e] at hr'
          simp at hr'
          subst hr'
          exact ⟨x, by simp [hx], hrx⟩
        · intro h'; rw [e] at h'; simp at h'
      · have e : jst (l ++ [p]) = ((jst l).1 ++ [r], some p) := by rw [jst_snoc]; simp [jstep, hst, h]
        have ej : joinL (l ++ [p]) = (jst l).1 ++ [r] ++ [p] := by simp [joinL, e]
        refine ⟨?_, ?_, ?_, ?_⟩
        · rw [ej]
          have : Valid (bare (jst l).1 ++ [r.1] ++ [p.1]) := valid_snoc.2 ⟨iv', p.2.1, p.2.2.1, p.2.2.2, by
            intro s hs
            rcases List.mem_append.1 hs with hs | hs
            · have := v5 s hs; omega
            · simp at hs; subst hs; omega⟩
          simpa using this
        · intro n
          have h1 := is n
          rw [ej]
          simp only [bare, List.map_append, List.map_cons, List.map_nil, hasB_append, hasB_one] at h1 ⊢
          rw [← h1]
        · intro r' hr'
          rw [e] at hr'
          simp at hr'
          subst hr'
          exact ⟨p, by simp, rfl⟩
        · intro h'; rw [e] at h'; simp at h'

theorem clip_has (s : S) (n : Int) : hasB ((clip s).map (·.1)).toList n = inB n s := by
  unfold clip
  split
  · rename_i h
    rw [Option.map_some, Option.toList_some]
    refine (hasB_one ⟨(max s.1 0, min s.2 16383), by simp only; omega⟩ n).trans ?_
    unfold inB
    rw [Bool.eq_iff_iff]
    simp
    omega
  · rename_i h
    simp [hasB, inB]
    omega

theorem clipL_has (l : List S) (n : Int) : hasB (clipL l) n = hasB l n := by
  induction l with
  | nil => rfl
  | cons s l ih =>
    have e : clipL (s :: l) = ((clip s).map (·.1)).toList ++ clipL l := by
      unfold clipL
      cases h : clip s <;> simp [h]
    rw [e, hasB_append, ih, clip_has]
    rfl

theorem hasB_perm {l m : List S} (h : l.Perm m) (n : Int) : hasB l n = hasB m n := by
  unfold hasB
  rw [Bool.eq_iff_iff, List.any_eq_true, List.any_eq_true]
  exact ⟨fun ⟨x, hx, hp⟩ => ⟨x, h.mem_iff.1 hx, hp⟩, fun ⟨x, hx, hp⟩ => ⟨x, h.mem_iff.2 hx, hp⟩⟩

theorem mix0_has (l : List S) (n : Int) : hasB (mixS 0 l []) n = hasB l n := by
  rw [(mixS_spec 0 l []).2]
  by_cases h : 0 ≤ n ∧ n < 16384
  · simp [h, cnd, hasB]
  · rw [decide_eq_false h, Bool.false_and, hasB_out (by omega)]

/-- sorted parts of a list, joined: the valid list of its slots. -/
theorem joined_is {l zs : List S} (hp : zs.Perm (clipL l)) (hs : zs.Pairwise (fun s t => s.1 ≤ t.1)) : ∃ vs : List V, bare vs = zs ∧ bare (joinL vs) = mixS 0 l [] := by
  have hr : ∀ z ∈ zs, 0 ≤ z.1 ∧ z.1 ≤ z.2 ∧ z.2 < 16384 := fun z hz => by
    have := hp.mem_iff.1 hz
    unfold clipL at this
    obtain ⟨v, _, rfl⟩ := List.mem_map.1 this
    exact v.2
  have hb : bare (zs.pmap Subtype.mk hr) = zs := by simp [bare, List.map_pmap]
  refine ⟨zs.pmap Subtype.mk hr, hb, ?_⟩
  have hj := jok (zs.pmap Subtype.mk hr) (by
    have : (bare (zs.pmap Subtype.mk hr)).Pairwise (fun s t => s.1 ≤ t.1) := by rw [hb]; exact hs
    exact (List.pairwise_map (f := fun v : V => v.1) (R := fun s t : S => s.1 ≤ t.1)).1 this)
  refine hj.valid.unique (mixS_spec 0 l []).1 fun n => ?_
  rw [hj.same, hb, hasB_perm hp, clipL_has, mix0_has]

end Sp
end Go.Proofs.Ytchladbjhodkoaa
