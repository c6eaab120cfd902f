/- Rows of texts as plain lists: elements with their indices, from either end; parts; what goes. No program in it. -/
namespace Go.Proofs.Ytjfjlbgbdjcecaa.Ls

abbrev Bs := List UInt8
/-- an index and its element. -/
abbrev El := Nat × Bs

/-- the first k elements with their indices, from the front or from the end. -/
def dirK (back : Bool) (ws : List Bs) (k : Nat) : List El := (List.range k).map fun i => if back then (ws.length - 1 - i, ws.getD (ws.length - 1 - i) []) else (i, ws.getD i [])
def dirL (back : Bool) (ws : List Bs) : List El := dirK back ws ws.length
/-- the one that comes next. -/
def dirAt (back : Bool) (ws : List Bs) (k : Nat) : El := if back then (ws.length - 1 - k, ws.getD (ws.length - 1 - k) []) else (k, ws.getD k [])

theorem dirK_zero (back : Bool) (ws : List Bs) : dirK back ws 0 = [] := rfl
theorem dirK_succ (back : Bool) (ws : List Bs) (k : Nat) : dirK back ws (k + 1) = dirK back ws k ++ [dirAt back ws k] := by simp [dirK, dirAt, List.range_succ]
theorem dirK_len (back : Bool) (ws : List Bs) (k : Nat) : (dirK back ws k).length = k := by simp [dirK]
theorem dirK_pre (back : Bool) (ws : List Bs) {k : Nat} (h : k ≤ ws.length) : dirK back ws k <+: dirL back ws := by
  unfold dirL
  obtain ⟨d, hd⟩ : ∃ d, ws.length = k + d := ⟨ws.length - k, by omega⟩
  rw [hd]
  clear hd h
  induction d with
  | zero => exact List.prefix_refl _
  | succ d ih => rw [← Nat.add_assoc, dirK_succ]; exact ih.trans (List.prefix_append _ _)
theorem dirL_len (back : Bool) (ws : List Bs) : (dirL back ws).length = ws.length := dirK_len _ _ _
theorem pre_dirK {back : Bool} {ws : List Bs} {p : List El} (h : p <+: dirL back ws) : p = dirK back ws p.length ∧ p.length ≤ ws.length := by
  have hl : p.length ≤ ws.length := by have := h.length_le; rwa [dirL_len] at this
  refine ⟨?_, hl⟩
  have h1 := dirK_pre back ws hl
  exact (List.prefix_of_prefix_length_le h h1 (by rw [dirK_len]; exact Nat.le_refl _)).eq_of_length (by rw [dirK_len])
theorem getD_mem_len {α : Type} {l : List α} {d : α} {k : Nat} (h : k < l.length) : l.getD k d = l[k] := by simp [List.getD, h]
theorem dirL_front (ws : List Bs) : (dirL false ws).map (·.2) = ws := by
  apply List.ext_getElem
  · simp [dirL, dirK]
  · intro i h1 h2
    simp [dirL, dirK, h2]
theorem dirL_back (ws : List Bs) : (dirL true ws).map (·.2) = ws.reverse := by
  apply List.ext_getElem
  · simp [dirL, dirK]
  · intro i h1 h2
    simp only [List.length_reverse] at h2
    simp [dirL, dirK, List.getD, show ws.length - 1 - i < ws.length by omega]
theorem dirAt_mem (back : Bool) {ws : List Bs} {k : Nat} (h : k < ws.length) : (dirAt back ws k).2 ∈ ws ∧ (dirAt back ws k).1 < ws.length := by
  unfold dirAt
  cases back
  · simp only [Bool.false_eq_true, if_false]
    rw [getD_mem_len h]
    exact ⟨List.getElem_mem h, h⟩
  · simp only [if_true]
    have h' : ws.length - 1 - k < ws.length := by omega
    rw [getD_mem_len h']
    exact ⟨List.getElem_mem h', h'⟩

/-- so many ahead of a place are equal to v. -/
def seen (ws : List Bs) (v : Bs) (i : Nat) : Nat := ((ws.take i).filter (· == v)).length
def allN (ws : List Bs) (v : Bs) : Nat := (ws.filter (· == v)).length
theorem seen_zero (ws : List Bs) (v : Bs) : seen ws v 0 = 0 := by simp [seen]
theorem take_snocB {α : Type} {l : List α} {d : α} {k : Nat} (h : k < l.length) : l.take (k + 1) = l.take k ++ [l.getD k d] := by
  rw [List.take_succ_eq_append_getElem h, getD_mem_len h]
theorem seen_succ {ws : List Bs} {v : Bs} {i : Nat} (h : i < ws.length) : seen ws v (i + 1) = seen ws v i + if ws.getD i [] == v then 1 else 0 := by
  unfold seen
  rw [take_snocB (d := []) h, List.filter_append, List.length_append]
  congr 1
  by_cases hh : (ws.getD i [] == v) = true
  · simp only [List.filter_cons, hh, if_true]; rfl
  · simp only [List.filter_cons, hh]; rfl
theorem seen_all (ws : List Bs) (v : Bs) : seen ws v ws.length = allN ws v := by simp [seen, allN]
theorem seen_mono {ws : List Bs} {v : Bs} {i j : Nat} (h : i ≤ j) (hj : j ≤ ws.length) : seen ws v i ≤ seen ws v j := by
  obtain ⟨d, rfl⟩ : ∃ d, j = i + d := ⟨j - i, by omega⟩
  clear h
  induction d with
  | zero => exact Nat.le_refl _
  | succ d ih =>
    have := ih (by omega)
    rw [← Nat.add_assoc, seen_succ (by omega)]
    omega
theorem seen_le (ws : List Bs) (v : Bs) (i : Nat) : seen ws v i ≤ i := Nat.le_trans (List.length_filter_le _ _) (List.length_take_le _ _)
theorem seen_hit {ws : List Bs} {v : Bs} {i j : Nat} (h : i < j) (hj : j ≤ ws.length) (hv : (ws.getD i [] == v) = true) : seen ws v i < seen ws v j := by
  have h1 := seen_succ (ws := ws) (v := v) (i := i) (by omega)
  rw [hv] at h1
  have h2 := seen_mono (ws := ws) (v := v) (i := i + 1) (j := j) (by omega) hj
  simp at h1
  omega
theorem allN_le (ws : List Bs) (v : Bs) : allN ws v ≤ ws.length := List.length_filter_le _ _

/-- does the element at a place go, of those from lo to hi? -/
def goneB (ws : List Bs) (v : Bs) (lo hi i : Nat) : Bool := ws.getD i [] == v && (decide (lo ≤ seen ws v i) && decide (seen ws v i < hi))
def dropK (ws : List Bs) (v : Bs) (lo hi k : Nat) : List Bs := ((List.range k).filter fun i => !goneB ws v lo hi i).map fun i => ws.getD i []
def dropS (ws : List Bs) (v : Bs) (lo hi : Nat) : List Bs := dropK ws v lo hi ws.length
theorem dropK_zero (ws : List Bs) (v : Bs) (lo hi : Nat) : dropK ws v lo hi 0 = [] := rfl
theorem dropK_gone {ws : List Bs} {v : Bs} {lo hi k : Nat} (h : goneB ws v lo hi k = true) : dropK ws v lo hi (k + 1) = dropK ws v lo hi k := by simp [dropK, List.range_succ, h]
theorem dropK_stays {ws : List Bs} {v : Bs} {lo hi k : Nat} (h : goneB ws v lo hi k = false) : dropK ws v lo hi (k + 1) = dropK ws v lo hi k ++ [ws.getD k []] := by simp [dropK, List.range_succ, h]
theorem dropK_le (ws : List Bs) (v : Bs) (lo hi k : Nat) : (dropK ws v lo hi k).length ≤ k := by
  unfold dropK
  rw [List.length_map]
  exact Nat.le_trans (List.length_filter_le _ _) (by simp)
theorem dropK_pre (ws : List Bs) (v : Bs) (lo hi : Nat) {k j : Nat} (h : k ≤ j) : dropK ws v lo hi k <+: dropK ws v lo hi j := by
  obtain ⟨d, rfl⟩ : ∃ d, j = k + d := ⟨j - k, by omega⟩
  clear h
  induction d with
  | zero => exact List.prefix_refl _
  | succ d ih =>
    rw [← Nat.add_assoc]
    by_cases hg : goneB ws v lo hi (k + d) = true
    · rw [dropK_gone hg]; exact ih
    · rw [dropK_stays (by simpa using hg)]; exact ih.trans (List.prefix_append _ _)
theorem dropK_mem {ws : List Bs} {v : Bs} {lo hi k : Nat} (hk : k ≤ ws.length) {s : Bs} (h : s ∈ dropK ws v lo hi k) : s ∈ ws := by
  unfold dropK at h
  obtain ⟨i, hi, rfl⟩ := List.mem_map.1 h
  have := List.mem_range.1 (List.mem_filter.1 hi).1
  rw [getD_mem_len (by omega)]
  exact List.getElem_mem _
/-- so many have gone up to a place. -/
def wentK (ws : List Bs) (v : Bs) (lo hi k : Nat) : Nat := min (seen ws v k) hi - lo
theorem wentK_zero (ws : List Bs) (v : Bs) (lo hi : Nat) : wentK ws v lo hi 0 = 0 := by simp [wentK, seen_zero]
theorem wentK_gone {ws : List Bs} {v : Bs} {lo hi k : Nat} (hk : k < ws.length) (h : goneB ws v lo hi k = true) : wentK ws v lo hi (k + 1) = wentK ws v lo hi k + 1 := by
  unfold goneB at h
  simp only [Bool.and_eq_true, decide_eq_true_eq] at h
  obtain ⟨h1, h2, h3⟩ := h
  unfold wentK
  rw [seen_succ hk, h1, if_pos rfl]
  omega
theorem wentK_stays {ws : List Bs} {v : Bs} {lo hi k : Nat} (hk : k < ws.length) (h : goneB ws v lo hi k = false) : wentK ws v lo hi (k + 1) = wentK ws v lo hi k := by
  unfold goneB at h
  unfold wentK
  rw [seen_succ hk]
  by_cases h1 : (ws.getD k [] == v) = true
  · rw [h1] at h
    rw [h1, if_pos rfl]
    simp only [Bool.true_and, Bool.and_eq_false_iff, decide_eq_false_iff_not] at h
    rcases h with h | h <;> omega
  · rw [if_neg h1]; rfl
theorem dropK_len {ws : List Bs} {v : Bs} {lo hi k : Nat} (hk : k ≤ ws.length) : (dropK ws v lo hi k).length + wentK ws v lo hi k = k := by
  induction k with
  | zero => simp [dropK_zero, wentK_zero]
  | succ k ih =>
    have ih := ih (by omega)
    by_cases h : goneB ws v lo hi k = true
    · rw [dropK_gone h, wentK_gone (by omega) h]; omega
    · have h : goneB ws v lo hi k = false := by simpa using h
      rw [dropK_stays h, wentK_stays (by omega) h]; simp; omega

/-- from which to which one they go. -/
def loN (ws : List Bs) (v : Bs) (n : Int) : Nat := if n < 0 then allN ws v - n.natAbs else 0
def hiN (ws : List Bs) (v : Bs) (n : Int) : Nat := if 0 < n then min n.natAbs (allN ws v) else allN ws v
def remS (ws : List Bs) (v : Bs) (n : Int) : List Bs := dropS ws v (loN ws v n) (hiN ws v n)
def remN (ws : List Bs) (v : Bs) (n : Int) : Nat := hiN ws v n - loN ws v n
theorem hiN_le (ws : List Bs) (v : Bs) (n : Int) : hiN ws v n ≤ allN ws v := by unfold hiN; split <;> omega
theorem loN_le (ws : List Bs) (v : Bs) (n : Int) : loN ws v n ≤ hiN ws v n := by unfold loN hiN; split <;> split <;> omega
theorem wentK_all (ws : List Bs) (v : Bs) (n : Int) : wentK ws v (loN ws v n) (hiN ws v n) ws.length = remN ws v n := by
  have := hiN_le ws v n
  unfold wentK remN
  rw [seen_all]
  omega

/-- what a walk has marked. -/
def markB (v : Bs) (pre : List El) (i : Nat) : Bool := pre.any fun x => x.1 == i && x.2 == v
def hitN (v : Bs) (pre : List El) : Nat := (pre.filter fun x => x.2 == v).length
theorem hitN_nil (v : Bs) : hitN v [] = 0 := rfl
theorem hitN_yes {v : Bs} {pre : List El} {x : El} (h : x.2 = v) : hitN v (pre ++ [x]) = hitN v pre + 1 := by simp [hitN, h]
theorem hitN_no {v : Bs} {pre : List El} {x : El} (h : ¬ x.2 = v) : hitN v (pre ++ [x]) = hitN v pre := by simp [hitN, h]
theorem markB_yes {v : Bs} {pre : List El} {x : El} (h : x.2 = v) (i : Nat) : markB v (pre ++ [x]) i = (markB v pre i || x.1 == i) := by simp [markB, h]
theorem markB_no {v : Bs} {pre : List El} {x : El} (h : ¬ x.2 = v) (i : Nat) : markB v (pre ++ [x]) i = markB v pre i := by simp [markB, h]
theorem hitN_le (v : Bs) (pre : List El) : hitN v pre ≤ pre.length := List.length_filter_le _ _

theorem front_hits (ws : List Bs) (v : Bs) {k : Nat} (hk : k ≤ ws.length) : hitN v (dirK false ws k) = seen ws v k := by
  induction k with
  | zero => simp [dirK_zero, hitN_nil, seen_zero]
  | succ k ih =>
    have ih := ih (by omega)
    rw [dirK_succ, seen_succ (by omega)]
    by_cases h : ws.getD k [] = v
    · rw [hitN_yes (by simpa [dirAt] using h), ih, h]; simp
    · rw [hitN_no (by simpa [dirAt] using h), ih, if_neg (by simpa using h)]; rfl
theorem back_hits (ws : List Bs) (v : Bs) {k : Nat} (hk : k ≤ ws.length) : hitN v (dirK true ws k) + seen ws v (ws.length - k) = allN ws v := by
  induction k with
  | zero => simp [dirK_zero, hitN_nil, seen_all]
  | succ k ih =>
    have ih := ih (by omega)
    have e : ws.length - k = (ws.length - (k + 1)) + 1 := by omega
    rw [e, seen_succ (by omega)] at ih
    rw [dirK_succ]
    by_cases h : ws.getD (ws.length - (k + 1)) [] = v
    · rw [hitN_yes (by simp only [dirAt, if_true]; rwa [show ws.length - 1 - k = ws.length - (k + 1) by omega])]
      rw [if_pos (by simpa using h)] at ih
      omega
    · rw [hitN_no (by simp only [dirAt, if_true]; rwa [show ws.length - 1 - k = ws.length - (k + 1) by omega])]
      rw [if_neg (by simpa using h)] at ih
      omega
theorem front_marks (ws : List Bs) (v : Bs) (k i : Nat) : markB v (dirK false ws k) i = (decide (i < k) && ws.getD i [] == v) := by
  induction k with
  | zero => simp [dirK_zero, markB]
  | succ k ih =>
    rw [dirK_succ]
    by_cases h : ws.getD k [] = v
    · rw [markB_yes (by simpa [dirAt] using h), ih]
      by_cases hi : i = k
      · subst hi; simp [dirAt]; simpa using h
      · have h1 : (k == i) = false := by simp; omega
        simp only [dirAt, Bool.false_eq_true, if_false, h1, Bool.or_false]
        congr 1
        rw [decide_eq_decide]; omega
    · rw [markB_no (by simpa [dirAt] using h), ih]
      by_cases hi : i = k
      · subst hi; simp; simpa using h
      · congr 1
        rw [decide_eq_decide]; omega
theorem back_marks (ws : List Bs) (v : Bs) {k i : Nat} (hk : k ≤ ws.length) (hi : i < ws.length) : markB v (dirK true ws k) i = (decide (ws.length - k ≤ i) && ws.getD i [] == v) := by
  induction k with
  | zero => simp [dirK_zero, markB]; omega
  | succ k ih =>
    have ih := ih (by omega)
    rw [dirK_succ]
    have e : ws.length - 1 - k = ws.length - (k + 1) := by omega
    by_cases h : ws.getD (ws.length - (k + 1)) [] = v
    · rw [markB_yes (by simp only [dirAt, if_true]; rwa [e]), ih]
      simp only [dirAt, if_true, e]
      by_cases hj : i = ws.length - (k + 1)
      · subst hj
        have h2 : (ws.getD (ws.length - (k + 1)) [] == v) = true := by simpa using h
        rw [h2]
        simp
      · have h1 : (ws.length - (k + 1) == i) = false := by simp; omega
        rw [h1, Bool.or_false]
        congr 1
        rw [decide_eq_decide]; omega
    · rw [markB_no (by simp only [dirAt, if_true]; rwa [e]), ih]
      by_cases hj : i = ws.length - (k + 1)
      · subst hj
        have h2 : (ws.getD (ws.length - (k + 1)) [] == v) = false := by simpa using h
        rw [h2, Bool.and_false, Bool.and_false]
      · congr 1
        rw [decide_eq_decide]; omega

/-- where a walk that marks may end: at the row's end, or where so many are marked as were asked for. -/
def EndsAt (ws : List Bs) (v : Bs) (n : Int) (pre : List El) : Prop :=
  pre <+: dirL (decide (n < 0)) ws ∧ ((pre = dirL (decide (n < 0)) ws ∧ (n = 0 ∨ hitN v pre < n.natAbs)) ∨ (n ≠ 0 ∧ hitN v pre = n.natAbs))
theorem ends_marks {ws : List Bs} {v : Bs} {n : Int} {pre : List El} (h : EndsAt ws v n pre) : hitN v pre = remN ws v n ∧ ∀ i, i < ws.length → markB v pre i = goneB ws v (loN ws v n) (hiN ws v n) i := by
  obtain ⟨hp, hc⟩ := h
  obtain ⟨he, hl⟩ := pre_dirK hp
  generalize hk : pre.length = k at he hl
  have hc : (k = ws.length ∧ (n = 0 ∨ hitN v pre < n.natAbs)) ∨ (n ≠ 0 ∧ hitN v pre = n.natAbs) := by
    rcases hc with ⟨h1, h2⟩ | h
    · exact .inl ⟨by rw [← hk, h1, dirL_len], h2⟩
    · exact .inr h
  clear hp hk
  by_cases hn : n < 0
  · rw [decide_eq_true hn] at he
    subst he
    have hh := back_hits ws v hl
    have hs : seen ws v (ws.length - k) = loN ws v n := by
      unfold loN
      rw [if_pos hn]
      rcases hc with ⟨rfl, h2⟩ | ⟨-, h2⟩
      · rw [Nat.sub_self, seen_zero] at hh ⊢
        rcases h2 with h2 | h2 <;> omega
      · omega
    have hhi : hiN ws v n = allN ws v := by unfold hiN; rw [if_neg (by omega)]
    refine ⟨by unfold remN; omega, fun i hi => ?_⟩
    rw [back_marks ws v hl hi]
    unfold goneB
    rw [hhi, ← hs]
    by_cases hv : (ws.getD i [] == v) = true
    · have h3 := seen_hit hi (Nat.le_refl _) hv
      rw [seen_all] at h3
      rw [hv, decide_eq_true h3, Bool.and_true, Bool.and_true, Bool.true_and, decide_eq_decide]
      constructor
      · intro h; exact seen_mono h (by omega)
      · intro h
        by_cases hlt : ws.length - k ≤ i
        · exact hlt
        · have := seen_hit (ws := ws) (v := v) (i := i) (j := ws.length - k) (by omega) (by omega) hv
          omega
    · simp only [hv, Bool.and_false, Bool.false_and]
  · rw [decide_eq_false hn] at he
    subst he
    have hh := front_hits ws v hl
    rw [hh] at hc ⊢
    have hlo : loN ws v n = 0 := by unfold loN; rw [if_neg hn]
    have hle := seen_mono (ws := ws) (v := v) hl (Nat.le_refl _)
    rw [seen_all] at hle
    have hs : seen ws v k = hiN ws v n := by
      unfold hiN
      rcases hc with ⟨rfl, h2⟩ | ⟨h1, h2⟩
      · rw [seen_all] at h2 ⊢
        split <;> omega
      · rw [if_pos (by omega)]; omega
    refine ⟨by unfold remN; omega, fun i hi => ?_⟩
    rw [front_marks]
    unfold goneB
    rw [hlo, ← hs]
    by_cases hv : (ws.getD i [] == v) = true
    · rw [hv, decide_eq_true (Nat.zero_le _), Bool.and_true, Bool.true_and, Bool.true_and, decide_eq_decide]
      constructor
      · intro h; exact seen_hit h hl hv
      · intro h
        by_cases hlt : i < k
        · exact hlt
        · have := seen_mono (ws := ws) (v := v) (i := k) (j := i) (by omega) (by omega)
          omega
    · simp only [hv, Bool.and_false, Bool.false_and]

/-- the elements that are not marked, with their indices. -/
def keptL (g : Nat → Bool) (ws : List Bs) : List El := (dirL false ws).filter fun x => !g x.1
def keptK (g : Nat → Bool) (pre : List El) : List El := pre.filter fun x => !g x.1
theorem keptK_yes {g : Nat → Bool} {pre : List El} {x : El} (h : g x.1 = false) : keptK g (pre ++ [x]) = keptK g pre ++ [x] := by simp [keptK, h]
theorem keptK_no {g : Nat → Bool} {pre : List El} {x : El} (h : g x.1 = true) : keptK g (pre ++ [x]) = keptK g pre := by simp [keptK, h]
theorem keptK_le (g : Nat → Bool) (pre : List El) : (keptK g pre).length ≤ pre.length := List.length_filter_le _ _
theorem kept_drop {ws : List Bs} {v : Bs} {lo hi : Nat} {g : Nat → Bool} (h : ∀ i, i < ws.length → g i = goneB ws v lo hi i) : (keptK g (dirL false ws)).map (·.2) = dropS ws v lo hi := by
  unfold keptK dirL dirK dropS dropK
  rw [List.filter_map, List.map_map]
  simp only [Bool.false_eq_true, if_false]
  congr 1
  apply List.filter_congr
  intro i hi
  simp only [Function.comp]
  rw [h i (List.mem_range.1 hi)]

/-- a place, counted from the end where it is negative. -/
def ix (n : Nat) (i : Int) : Int := if i < 0 then i + n else i
def isAt (n : Nat) (i : Int) : Bool := decide (0 ≤ ix n i) && decide (ix n i < n)
/-- the elements from a to b. -/
def subS (ws : List Bs) (a b : Int) : List Bs :=
  if max (ix ws.length a) 0 > min (ix ws.length b) (ws.length - 1) then [] else (ws.drop (max (ix ws.length a) 0).toNat).take ((min (ix ws.length b) (ws.length - 1)).toNat + 1 - (max (ix ws.length a) 0).toNat)
def pushS (ws vs : List Bs) (front : Bool) : List Bs := if front then vs.reverse ++ ws else ws ++ vs
def atS (ws : List Bs) (i : Int) : Bs := if isAt ws.length i then ws.getD (ix ws.length i).toNat [] else []
def setS (ws : List Bs) (i : Int) (v : Bs) : List Bs := if isAt ws.length i then ws.set (ix ws.length i).toNat v else []
end Go.Proofs.Ytjfjlbgbdjcecaa.Ls
