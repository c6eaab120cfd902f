/- Plain: the program's reading of a list's text and the reference's are one, and each reads what is written. -/
import Derived.Test.YtlbmkgnfbkimaaaDoorDevRead
import Derived.Test.YtlbmkgnfbkimaaaDoorSpRead
import Derived.Test.YtlbmkgnfbkimaaaDoorDevText
namespace Go.Proofs.YtlbmkgnfbkimaaaDoor
namespace Tx

theorem digs_mem : ∀ (u : Nat) {x : UInt8}, x ∈ Dig.digs u → 48 ≤ x.toNat ∧ x.toNat ≤ 57 := by
  intro u
  induction u using Nat.strongRecOn with
  | ind u ih =>
    intro x hx
    by_cases h : u < 10
    · rw [Dig.digs_small h] at hx
      simp at hx
      subst hx
      simp [UInt8.toNat_ofNat]; omega
    · rw [Dig.digs_step h] at hx
      simp only [List.mem_append, List.mem_singleton] at hx
      rcases hx with hx | hx
      · exact ih _ (by omega) hx
      · subst hx
        simp [UInt8.toNat_ofNat]; omega

theorem digs_ne' (u : Nat) : Dig.digs u ≠ [] := digs_ne u

theorem digs_head : ∀ (u : Nat), 0 < u → (Dig.digs u).head? ≠ some 48 := by
  intro u
  induction u using Nat.strongRecOn with
  | ind u ih =>
    intro hu
    by_cases h : u < 10
    · rw [Dig.digs_small h]
      intro hc
      have h1 : u = 1 ∨ u = 2 ∨ u = 3 ∨ u = 4 ∨ u = 5 ∨ u = 6 ∨ u = 7 ∨ u = 8 ∨ u = 9 := by omega
      rcases h1 with rfl | rfl | rfl | rfl | rfl | rfl | rfl | rfl | rfl <;> exact absurd hc (by decide)
    · rw [Dig.digs_step h]
      have := ih (u / 10) (by omega) (by omega)
      cases hd : Dig.digs (u / 10) with
      | nil => exact absurd hd (digs_ne _)
      | cons x r => rw [hd] at this; simpa using this

theorem dig_toNat {d : Nat} (h : d < 10) : (UInt8.ofNat (48 + d)).toNat = 48 + d := by
  simp [UInt8.toNat_ofNat]; omega

theorem ofNat_toNat {x : UInt8} {k : Nat} (h : x.toNat = k) : UInt8.ofNat k = x := by
  subst h; exact UInt8.ofNat_toNat

theorem go_digs : ∀ (u : Nat), u < 16384 → ∀ r, Rs.go 0 (Dig.digs u ++ r) = Rs.go (u : Int) r := by
  intro u
  induction u using Nat.strongRecOn with
  | ind u ih =>
    intro hu r
    by_cases h : u < 10
    · rw [Dig.digs_small h]
      simp only [List.cons_append, List.nil_append, Rs.go, dig_toNat h]
      rw [if_neg (by omega), if_neg (by omega)]
      congr 1; omega
    · rw [Dig.digs_step h, List.append_assoc, ih _ (by omega) (by omega)]
      have hd : u % 10 < 10 := Nat.mod_lt _ (by omega)
      simp only [List.cons_append, List.nil_append, Rs.go, dig_toNat hd]
      rw [if_neg (by omega), if_neg (by omega)]
      congr 1; omega

theorem slot_digs {u : Nat} (h : u < 16384) : Rs.slot (Dig.digs u) = some (u : Int) := by
  unfold Rs.slot
  rw [if_neg]
  · have := go_digs u h []
    rw [List.append_nil] at this
    rw [this]; rfl
  · rintro (h1 | ⟨h1, h2⟩)
    · exact digs_ne _ h1
    · by_cases h0 : u = 0
      · subst h0; exact h2 (by rw [Dig.digs_small (by omega)]; rfl)
      · exact digs_head u (by omega) h1

theorem dec_pos {n : Int} (h : 0 ≤ n) : Dig.dec n = Dig.digs n.toNat := by
  unfold Dig.dec; rw [if_neg (by omega)]

theorem slot_dec {n : Int} (h0 : 0 ≤ n) (h1 : n < 16384) : Rs.slot (Dig.dec n) = some n := by
  rw [dec_pos h0, slot_digs (by omega)]
  congr 1; omega

theorem go_back : ∀ (r : List UInt8) (m n : Nat), 0 < m → Rs.go (m : Int) r = some (n : Int) → Dig.digs m ++ r = Dig.digs n
  | [], m, n, _, h => by
    simp [Rs.go] at h
    have : m = n := by omega
    subst this; simp
  | x :: r, m, n, hm, h => by
    unfold Rs.go at h
    split at h
    · simp at h
    · rename_i hx
      split at h
      · simp at h
      · have e : (m : Int) * 10 + ((x.toNat : Int) - 48) = ((m * 10 + (x.toNat - 48) : Nat) : Int) := by omega
        rw [e] at h
        have := go_back r _ n (by omega) h
        rw [Dig.digs_step (u := m * 10 + (x.toNat - 48)) (by omega)] at this
        have e1 : (m * 10 + (x.toNat - 48)) / 10 = m := by omega
        have e2 : 48 + (m * 10 + (x.toNat - 48)) % 10 = x.toNat := by omega
        rw [e1, e2, UInt8.ofNat_toNat, List.append_assoc] at this
        simpa using this

theorem slot_back {l : List UInt8} {n : Int} (h : Rs.slot l = some n) : l = Dig.dec n := by
  have hr := Rs.slot_range h
  rw [dec_pos hr.1]
  unfold Rs.slot at h
  split at h
  · simp at h
  · rename_i hc
    have hne : l ≠ [] := fun h => hc (.inl h)
    have hz : l.head? = some 48 → l = [48] := fun h1 => Classical.byContradiction fun h2 => hc (.inr ⟨h1, h2⟩)
    cases l with
    | nil => exact absurd rfl hne
    | cons x r =>
      by_cases hx : x = 48
      · have := hz (by simp [hx])
        rw [this] at h ⊢
        simp [Rs.go] at h
        subst h
        rw [Dig.digs_small (by decide)]; rfl
      · have hx' : x.toNat ≠ 48 := fun h => hx (UInt8.toNat_inj.1 (by rw [h]; rfl))
        unfold Rs.go at h
        split at h
        · simp at h
        · rename_i hd
          split at h
          · simp at h
          · have e : (0 : Int) * 10 + ((x.toNat : Int) - 48) = ((x.toNat - 48 : Nat) : Int) := by omega
            have e2 : n = (n.toNat : Int) := by omega
            rw [e, e2] at h
            have := go_back r _ _ (by omega) h
            rw [Dig.digs_small (u := x.toNat - 48) (by omega), show 48 + (x.toNat - 48) = x.toNat by omega, UInt8.ofNat_toNat] at this
            exact this

theorem dec_mem {n : Int} (h : 0 ≤ n) {x : UInt8} (hx : x ∈ Dig.dec n) : 48 ≤ x.toNat ∧ x.toNat ≤ 57 := by
  rw [dec_pos h] at hx; exact digs_mem _ hx

theorem split_out {c : UInt8} : ∀ {a : List UInt8}, c ∉ a → Tags.split c a = none
  | [], _ => rfl
  | x :: a, h => by
    simp only [List.mem_cons, not_or] at h
    simp only [Tags.split, if_neg (Ne.symm h.1)]
    rw [split_out h.2]; rfl

theorem split_at {c : UInt8} {b : List UInt8} : ∀ {a : List UInt8}, c ∉ a → Tags.split c (a ++ c :: b) = some (a, b)
  | [], _ => by simp [Tags.split]
  | x :: a, h => by
    simp only [List.mem_cons, not_or] at h
    simp only [List.cons_append, Tags.split, if_neg (Ne.symm h.1)]
    rw [split_at h.2]; rfl

theorem dec_out {n : Int} (h : 0 ≤ n) {c : UInt8} (hc : c.toNat < 48) : c ∉ Dig.dec n := fun hx => by
  have := dec_mem h hx; omega

theorem span_one {s : Sp.S} (h0 : 0 ≤ s.1) (h1 : s.1 ≤ s.2) (h2 : s.2 < 16384) : Rs.span (oneT s) = some s := by
  unfold Rs.span oneT
  by_cases h : s.1 < s.2
  · rw [if_pos h, split_at (dec_out h0 (by decide))]
    simp only [slot_dec h0 (by omega), slot_dec (show 0 ≤ s.2 by omega) h2]
    rw [if_pos h]
  · rw [if_neg h, List.append_nil, split_out (dec_out h0 (by decide))]
    simp only [slot_dec h0 (by omega), Option.map_some]
    have : s.1 = s.2 := by omega
    cases s; simp only at this; subst this; rfl

theorem span_back {l : List UInt8} {s : Sp.S} (h : Rs.span l = some s) : l = oneT s := by
  unfold Rs.span at h
  split at h
  · simp only [Option.map_eq_some_iff] at h
    obtain ⟨n, hn, rfl⟩ := h
    unfold oneT
    simpa using slot_back hn
  · rename_i a b hs
    split at h
    · rename_i n m hn hm
      split at h
      · rename_i hnm
        simp at h
        subst h
        have h1 := (Tags.split_some hs).1
        unfold oneT
        rw [if_pos hnm, ← slot_back hn, ← slot_back hm]
        exact h1
      · simp at h
    · simp at h

/-- pieces put together with commas. -/
def joinL : List (List UInt8) → List UInt8
  | [] => []
  | [x] => x
  | x :: y :: r => x ++ 44 :: joinL (y :: r)

theorem joinL_snoc : ∀ (xs : List (List UInt8)) (x : List UInt8), joinL (xs ++ [x]) = joinL xs ++ (if 0 < xs.length then [44] else []) ++ x
  | [], x => by simp [joinL]
  | [y], x => by simp [joinL]
  | y :: z :: r, x => by
    have := joinL_snoc (z :: r) x
    simp only [List.cons_append, joinL] at this ⊢
    rw [this]
    simp

theorem splitL_out {c : UInt8} {x : List UInt8} (h : c ∉ x) : splitL c x = [x] := splitL_none (split_out h)
theorem splitL_at {c : UInt8} {x r : List UInt8} (h : c ∉ x) : splitL c (x ++ c :: r) = x :: splitL c r := splitL_some (split_at h)

theorem splitL_join : ∀ (xs : List (List UInt8)), xs ≠ [] → (∀ x ∈ xs, (44 : UInt8) ∉ x) → splitL 44 (joinL xs) = xs
  | [], h, _ => absurd rfl h
  | [x], _, h => splitL_out (h x (by simp))
  | x :: y :: r, _, h => by
    rw [joinL, splitL_at (h x (by simp)), splitL_join (y :: r) (by simp) (fun z hz => h z (by simp [hz]))]

theorem join_splitL : ∀ (l : List UInt8), joinL (splitL 44 l) = l
  | [] => rfl
  | x :: r => by
    have ih := join_splitL r
    unfold splitL
    split
    · rename_i hx
      cases hs : splitL 44 r with
      | nil => exact absurd hs (splitL_ne _ _)
      | cons p ps => rw [hs] at ih; simp [joinL, ih, hx]
    · split
      · rename_i hs; exact absurd hs (splitL_ne _ _)
      · rename_i p ps hs
        rw [hs] at ih
        cases ps with
        | nil => simp [joinL] at ih ⊢; exact ih
        | cons q qs => simp [joinL] at ih ⊢; exact ih

theorem textS_join (l : List Sp.S) : textS l = joinL (l.map oneT) := by
  generalize hn : l.length = n
  induction n generalizing l with
  | zero => rw [List.eq_nil_of_length_eq_zero hn]; rfl
  | succ n ih =>
    have hne : l ≠ [] := by intro h; subst h; simp at hn
    obtain ⟨l', t, rfl⟩ : ∃ l' t, l = l' ++ [t] := ⟨l.dropLast, l.getLast hne, (List.dropLast_concat_getLast hne).symm⟩
    rw [textS_snoc, ih l' (by simpa using hn)]
    simp only [List.map_append, List.map_cons, List.map_nil]
    rw [joinL_snoc]
    simp

theorem foll_of_valid {l : List Sp.S} {s : Sp.S} {r : List Sp.S} (h : Sp.Valid (l ++ s :: r)) : Rs.foll l s = true := by
  unfold Rs.foll
  by_cases hl : l = []
  · subst hl; rfl
  · have hlt : l.length - 1 < l.length := by have := List.length_pos_iff.2 hl; omega
    have := (List.pairwise_append.1 h.2).2.2 (l[l.length - 1]) (List.getElem_mem _) s (by simp)
    simp only [Bool.or_eq_true, decide_eq_true_eq]
    right
    simpa [List.getD, hlt] using this

theorem pieces_of : ∀ (r l : List Sp.S), Sp.Valid (l ++ r) → (r.map oneT).foldlM Rs.step l = some (l ++ r)
  | [], l, _ => by simp
  | s :: r, l, h => by
    have hs := h.1 s (by simp)
    simp only [List.map_cons, List.foldlM_cons, Rs.step, span_one hs.1 hs.2.1 hs.2.2]
    rw [if_pos (foll_of_valid h)]
    have := pieces_of r (l ++ [s]) (by simpa using h)
    simpa using this

theorem pieces_back : ∀ (xs : List (List UInt8)) (l m : List Sp.S), xs.foldlM Rs.step l = some m → ∃ r, m = l ++ r ∧ xs = r.map oneT
  | [], l, m, h => by
    simp at h
    exact ⟨[], by simp [h], rfl⟩
  | x :: xs, l, m, h => by
    simp only [List.foldlM_cons] at h
    obtain ⟨l1, h1, h2⟩ := Option.bind_eq_some_iff.1 h
    unfold Rs.step at h1
    split at h1
    · simp at h1
    · rename_i s hs
      split at h1
      · simp at h1
        subst h1
        obtain ⟨r, hr, hx⟩ := pieces_back xs _ m h2
        refine ⟨s :: r, by simp [hr], by simp [← span_back hs, hx]⟩
      · simp at h1

theorem oneT_out {s : Sp.S} (h0 : 0 ≤ s.1) (_h1 : s.1 ≤ s.2) : (44 : UInt8) ∉ oneT s := by
  unfold oneT
  intro h
  rw [List.mem_append] at h
  rcases h with h | h
  · exact dec_out h0 (by decide) h
  · split at h
    · rw [List.mem_cons] at h
      rcases h with h | h
      · exact absurd h (by decide)
      · exact dec_out (show 0 ≤ s.2 by omega) (by decide) h
    · simp at h

theorem oneT_ne {s : Sp.S} (h0 : 0 ≤ s.1) : oneT s ≠ [] := by
  unfold oneT
  intro h
  exact dec_ne h0 (List.append_eq_nil_iff.1 h).1

theorem textS_ne {l : List Sp.S} (hv : Sp.Valid l) (h : l ≠ []) : textS l ≠ [] := by
  rw [textS_join]
  cases l with
  | nil => exact absurd rfl h
  | cons s r =>
    have h1 := oneT_ne (hv.1 s (by simp)).1
    cases r with
    | nil => simpa [joinL] using h1
    | cons t r => simp [joinL]

/-- THE PROGRAM READS WHAT IS WRITTEN. -/
theorem readD_text {l : List Sp.S} (hv : Sp.Valid l) : readD (textS l) = some l := by
  unfold readD
  by_cases h : l = []
  · subst h; rfl
  · rw [if_neg (textS_ne hv h), textS_join, splitL_join _ (by simpa using h)]
    · have := pieces_of l [] (by simpa using hv)
      simpa [Rs.pieces] using this
    · intro x hx
      simp only [List.mem_map] at hx
      obtain ⟨s, hs, rfl⟩ := hx
      have := hv.1 s hs
      exact oneT_out this.1 this.2.1

/-- .. and nothing else. -/
theorem readD_back {bs : List UInt8} {l : List Sp.S} (h : readD bs = some l) : Sp.Valid l ∧ textS l = bs := by
  unfold readD at h
  split at h
  · rename_i hb
    simp at h
    subst h
    exact ⟨⟨by simp, by simp⟩, by rw [hb]; rfl⟩
  · unfold Rs.pieces at h
    refine ⟨Rs.pieces_valid h ⟨by simp, by simp⟩, ?_⟩
    obtain ⟨r, hr, hx⟩ := pieces_back _ _ _ h
    rw [List.nil_append] at hr
    subst hr
    rw [textS_join, ← hx, join_splitL]

/-- the reference's reader as a fold. -/
def frun (s : Rd.St) (bs : List UInt8) : Option Rd.St := bs.foldlM (fun s x => Rd.step s (some x.toNat)) s

theorem frun_append (s : Rd.St) (a b : List UInt8) : frun s (a ++ b) = (frun s a).bind fun t => frun t b := by
  unfold frun; rw [List.foldlM_append]; rfl

theorem run_frun (bs : List UInt8) : ∀ k, k ≤ bs.length → Rd.run bs k = frun ⟨[], 0, -1, 0⟩ (bs.take k)
  | 0, _ => rfl
  | k + 1, h => by
    have hk : k < bs.length := by omega
    rw [Rd.run, run_frun bs k (by omega), List.take_succ_eq_append_getElem hk, frun_append]
    congr 1
    funext t
    simp [frun, hk]

theorem all_frun {bs : List UInt8} (h : bs ≠ []) : Rd.all bs = ((frun ⟨[], 0, -1, 0⟩ bs).bind fun s => Rd.step s none).map Rd.St.l := by
  unfold Rd.all
  rw [if_neg h, Rd.run, run_frun bs _ (Nat.le_refl _), List.take_length]
  simp

theorem frun_digs (L : List Sp.S) (f : Int) : ∀ (u : Nat), u < 16384 → frun ⟨L, 0, f, 0⟩ (Dig.digs u) = some ⟨L, u, f, (Dig.digs u).length⟩ := by
  intro u
  induction u using Nat.strongRecOn with
  | ind u ih =>
    intro hu
    by_cases h : u < 10
    · rw [Dig.digs_small h]
      simp only [frun, List.foldlM_cons, List.foldlM_nil, Rd.step, dig_toNat h]
      rw [if_pos (by omega)]
      simp
      omega
    · have hd : u % 10 < 10 := Nat.mod_lt _ (by omega)
      rw [Dig.digs_step h, frun_append, ih _ (by omega) (by omega)]
      simp only [Option.bind_some, frun, List.foldlM_cons, List.foldlM_nil, Rd.step, dig_toNat hd]
      rw [if_pos (by omega)]
      simp
      omega

theorem dec_frun (L : List Sp.S) (f : Int) {n : Int} (h0 : 0 ≤ n) (h1 : n < 16384) : frun ⟨L, 0, f, 0⟩ (Dig.dec n) = some ⟨L, n, f, (Dig.dec n).length⟩ := by
  rw [dec_pos h0, frun_digs L f _ (by omega)]
  congr 2
  omega

theorem one_frun (L : List Sp.S) {s : Sp.S} (h0 : 0 ≤ s.1) (h1 : s.1 ≤ s.2) (h2 : s.2 < 16384) : ∃ t, frun ⟨L, 0, -1, 0⟩ (oneT s) = some t ∧ 0 < t.d ∧ Rd.push t = ⟨L ++ [s], 0, -1, 0⟩ := by
  have hp1 := List.length_pos_iff.2 (dec_ne h0)
  have hp2 := List.length_pos_iff.2 (dec_ne (show 0 ≤ s.2 by omega))
  unfold oneT
  rw [frun_append, dec_frun L _ h0 (by omega)]
  by_cases h : s.1 < s.2
  · refine ⟨⟨L, s.2, s.1, (Dig.dec s.2).length⟩, ?_, hp2, ?_⟩
    · rw [if_pos h, Option.bind_some, show (45 :: Dig.dec s.2) = [45] ++ Dig.dec s.2 from rfl, frun_append]
      have : frun ⟨L, s.1, -1, (Dig.dec s.1).length⟩ [45] = some ⟨L, 0, s.1, 0⟩ := by
        simp only [frun, List.foldlM_cons, List.foldlM_nil, Rd.step]
        rw [if_neg (by rintro ⟨h, -⟩; exact absurd h (by decide)), if_pos ⟨by decide, by decide, hp1⟩]
        rfl
      rw [this, Option.bind_some, dec_frun L _ (by omega) h2]
    · unfold Rd.push
      simp only
      rw [if_neg (by omega)]
  · refine ⟨⟨L, s.1, -1, (Dig.dec s.1).length⟩, by rw [if_neg h]; rfl, hp1, ?_⟩
    have : s.1 = s.2 := by omega
    unfold Rd.push
    simp only
    rw [if_pos (by decide)]
    cases s; simp only at this; subst this; rfl

theorem join_frun : ∀ (r L : List Sp.S), r ≠ [] → (∀ s ∈ r, 0 ≤ s.1 ∧ s.1 ≤ s.2 ∧ s.2 < 16384) → ((frun ⟨L, 0, -1, 0⟩ (joinL (r.map oneT))).bind fun s => Rd.step s none) = some ⟨L ++ r, 0, -1, 0⟩
  | [], _, h, _ => absurd rfl h
  | [s], L, _, hs => by
    have h := hs s (by simp)
    obtain ⟨t, ht, hd, hp⟩ := one_frun L h.1 h.2.1 h.2.2
    simp only [List.map_cons, List.map_nil, joinL]
    rw [ht, Option.bind_some, Rd.step, if_pos hd, hp]
  | s :: s' :: r, L, _, hs => by
    have h := hs s (by simp)
    obtain ⟨t, ht, hd, hp⟩ := one_frun L h.1 h.2.1 h.2.2
    have ih := join_frun (s' :: r) (L ++ [s]) (by simp) (fun x hx => hs x (by simp [hx]))
    simp only [List.map_cons, joinL] at ih ⊢
    rw [frun_append, ht, Option.bind_some, show (44 :: joinL (oneT s' :: r.map oneT)) = [44] ++ joinL (oneT s' :: r.map oneT) from rfl, frun_append]
    have : frun t [44] = some ⟨L ++ [s], 0, -1, 0⟩ := by
      simp only [frun, List.foldlM_cons, List.foldlM_nil, Rd.step]
      rw [if_neg (by rintro ⟨h, -⟩; exact absurd h (by decide)), if_neg (by rintro ⟨h, -⟩; exact absurd h (by decide)), if_pos ⟨by decide, hd⟩, hp]
      rfl
    rw [this, Option.bind_some, ih]
    simp

theorem all_text {l : List Sp.S} (hv : Sp.Valid l) : Rd.all (textS l) = some l := by
  by_cases h : l = []
  · subst h; rfl
  · rw [all_frun (textS_ne hv h), textS_join, join_frun l [] h hv.1]
    rfl

theorem mix_self {l : List Sp.S} (hv : Sp.Valid l) : Sp.mixS 0 l [] = l := by
  have hm := Sp.mixS_spec 0 l []
  refine Sp.Valid.unique hm.1 hv fun n => ?_
  rw [hm.2]
  have : Sp.hasB [] n = false := rfl
  rw [this]
  by_cases hn : 0 ≤ n ∧ n < 16384
  · simp [hn, Sp.cnd]
  · rw [Sp.hasB_out (by omega)]
    simp [Sp.cnd]

/-- THE PROGRAM'S READER AND THE REFERENCE'S GIVE THE SAME. -/
theorem read_same (bs : List UInt8) : readD bs = readOf bs := by
  cases hd : readD bs with
  | some l =>
    obtain ⟨hv, ht⟩ := readD_back hd
    have ha := all_text hv
    rw [ht] at ha
    exact (readOf_some ha hv (by rw [mix_self hv]; exact ht)).symm
  | none =>
    cases ho : readOf bs with
    | none => rfl
    | some l =>
      exfalso
      unfold readOf at ho
      cases ha : Rd.all bs with
      | none => rw [ha] at ho; simp at ho
      | some m =>
        rw [ha] at ho
        simp only at ho
        split at ho
        · rename_i hc
          obtain ⟨hv, ht⟩ := hc
          rw [mix_self hv] at ht
          have := readD_text hv
          rw [ht, hd] at this
          simp at this
        · simp at ho
end Tx
end Go.Proofs.YtlbmkgnfbkimaaaDoor
