/- What the reference reads, as plain functions; that it is what the reader reads. No program in it. -/
import Derived.Test.YtcjbfgkmpoebgaaDoorRpPre
import Derived.Test.YtcjbfgkmpoebgaaDoorRpUniq
import Derived.Test.YtcjbfgkmpoebgaaDoorRpNumPlain
namespace Go.Proofs.YtcjbfgkmpoebgaaDoor
namespace Rp

/-- a number's digits, one by one. -/
def numL (neg : Bool) (most : Nat) : Bool → Nat → List UInt8 → Out Int
  | _, _, [] => .err 6
  | fst, u, c :: r =>
    if 48 ≤ c.toNat ∧ c.toNat ≤ 57 then
      if (fst = false ∧ u = 0) ∨ (neg = true ∧ fst = true ∧ c.toNat = 48) ∨ most < 10 * u + (c.toNat - 48) then .err 5
      else numL neg most false (10 * u + (c.toNat - 48)) r
    else if fst = true then .err 5 else endP (if neg = true then -(u : Int) else (u : Int)) (c :: r)
def refN (low : Bool) (most : Nat) (bs : List UInt8) : Out Int :=
  if bs.head? = some 45 then (if low = true then numL true (most + 1) true 0 (bs.drop 1) else .err 5) else numL false most true 0 bs

theorem dev_rej {lo hi : Int} {p : List UInt8} {c : UInt8} {t : List UInt8} (hp : ∀ x ∈ p ++ [c], numC.contains x = true) (hc : c ≠ 13) (hl : p.length ≤ 20) (h1 : p ++ [c] ≠ [45])
    (h : ∀ v, lo ≤ v → v ≤ hi → ∀ q, p ++ [c] ++ q ≠ Dig.dec v) : devP lo hi (p ++ c :: t) = .err 5 := by
  by_cases h20 : p.length = 20
  · have hld : lead (p ++ c :: t) = p := by
      unfold lead
      rw [List.take_append_of_le_length (by omega), List.take_of_length_le (by omega)]
      exact takeWhile_self p fun x hx => hp x (by simp [hx])
    unfold devP
    rw [hld, if_neg (fun h => by have := h.2; simp at this)]
    cases Lib.atoiAll p with
    | ok v =>
      simp only
      split
      · rw [textP_bad p t c hc]; rfl
      · rfl
    | «syntax» => rfl
    | range => rfl
  · obtain ⟨s, hld⟩ : ∃ s, lead (p ++ c :: t) = p ++ [c] ++ s := by
      unfold lead
      obtain ⟨m, hm⟩ : ∃ m, 20 = p.length + (m + 1) := ⟨20 - p.length - 1, by omega⟩
      rw [hm, List.take_append, List.take_of_length_le (by omega), show p.length + (m + 1) - p.length = m + 1 by omega, List.take_succ_cons]
      refine ⟨(t.take m).takeWhile fun c => numC.contains c, ?_⟩
      rw [show p ++ c :: t.take m = (p ++ [c]) ++ t.take m by simp]
      exact List.takeWhile_append_of_pos hp
    unfold devP
    rw [hld, if_neg (fun hh => by
      rcases hh.1 with h2 | h2
      · simp at h2
      · have h3 := congrArg List.length h2.1
        simp at h3
        have hp0 : p = [] := List.eq_nil_of_length_eq_zero (by omega)
        have hs0 : s = [] := List.eq_nil_of_length_eq_zero (by omega)
        rw [hs0, List.append_nil] at h2
        exact h1 h2.1)]
    cases Lib.atoiAll (p ++ [c] ++ s) with
    | ok v =>
      simp only
      rw [if_neg (fun hh => h v hh.2.1 hh.2.2 s hh.1.symm)]
    | «syntax» => rfl
    | range => rfl

theorem digit_byte {c : UInt8} (h : 48 ≤ c.toNat ∧ c.toNat ≤ 57) : UInt8.ofNat (48 + (c.toNat - 48)) = c := by
  rw [show 48 + (c.toNat - 48) = c.toNat by omega]
  simp
theorem digs_snoc {u : Nat} (hu : 1 ≤ u) {c : UInt8} (h : 48 ≤ c.toNat ∧ c.toNat ≤ 57) : Dig.digs (10 * u + (c.toNat - 48)) = Dig.digs u ++ [c] := by
  rw [Dig.digs_step (by omega), show (10 * u + (c.toNat - 48)) / 10 = u by omega, show (10 * u + (c.toNat - 48)) % 10 = c.toNat - 48 by omega, digit_byte h]
theorem digs_one {c : UInt8} (h : 48 ≤ c.toNat ∧ c.toNat ≤ 57) : Dig.digs (c.toNat - 48) = [c] := by
  rw [Dig.digs_small (by omega), digit_byte h]
def sg (neg : Bool) (u : Nat) : Int := if neg = true then -(u : Int) else (u : Int)
def sP (neg : Bool) : List UInt8 := if neg = true then [45] else []
theorem dec_sg {neg : Bool} {u : Nat} (h : neg = true → 1 ≤ u) : Dig.dec (sg neg u) = sP neg ++ Dig.digs u := by
  cases neg with
  | true =>
    have := h rfl
    unfold Dig.dec sg sP
    rw [if_pos rfl, if_pos (by omega), if_pos rfl, Int.neg_neg, Int.toNat_natCast]
    rfl
  | false =>
    show Dig.dec (u : Int) = Dig.digs u
    unfold Dig.dec
    rw [if_neg (by omega), Int.toNat_natCast]
theorem digit_numC {c : UInt8} (h : 48 ≤ c.toNat ∧ c.toNat ≤ 57) : numC.contains c = true := numC_digit (by unfold Tx.isD; simp [h.1, h.2])
theorem numC_cases {c : UInt8} (h : numC.contains c = true) : c = 45 ∨ (48 ≤ c.toNat ∧ c.toNat ≤ 57) := by
  simp only [numC, List.contains_eq_mem, List.mem_cons, List.not_mem_nil, or_false, decide_eq_true_eq] at h
  rcases h with rfl | rfl | rfl | rfl | rfl | rfl | rfl | rfl | rfl | rfl | rfl <;> first | exact .inl rfl | exact .inr ⟨by decide, by decide⟩
theorem not_in_digs {u : Nat} : (45 : UInt8) ∉ Dig.digs u := fun h => absurd (digs_isD h) (by decide)
theorem dec_no_minus {v : Int} {x : UInt8} {xs : List UInt8} (h : Dig.dec v = x :: xs) : (45 : UInt8) ∉ xs := by
  by_cases hx : x = 45
  · subst hx
    have := (dec_minus h).2
    rw [← this]
    exact not_in_digs
  · have h2 := (dec_plus h hx).2
    intro hm
    have : (45 : UInt8) ∈ Dig.digs v.toNat := by rw [h2]; simp [hm]
    exact not_in_digs this
theorem dec_cons (v : Int) : ∃ x xs, Dig.dec v = x :: xs := by
  cases h : Dig.dec v with
  | nil => exact (dec_ne v h).elim
  | cons x xs => exact ⟨x, xs, rfl⟩
theorem textP_end (s r : List UInt8) : textP s.length (s ++ r) = endP s r := by
  unfold textP
  rw [if_neg (by simp), List.take_left, List.drop_left]
theorem endP_map {α β : Type} (a : α) (b : β) (r : List UInt8) : (endP a r).map (fun _ => b) = endP b r := by
  unfold endP
  cases r with
  | nil => rfl
  | cons x r =>
    simp only
    split
    · cases r with
      | nil => rfl
      | cons y t =>
        simp only
        split <;> rfl
    · rfl

theorem numL_dev {neg : Bool} {most : Nat} {lo hi : Int} (h0 : lo ≤ 0) (h1 : 0 ≤ hi) (hlo : -9223372036854775808 ≤ lo) (hhi : hi ≤ 9223372036854775807) (hn : neg = true → lo = -(most : Int) ∧ 1 ≤ most) (hp : neg = false → hi = (most : Int)) :
    ∀ (r : List UInt8) (fst : Bool) (u : Nat) (p : List UInt8), (fst = true → u = 0 ∧ p = sP neg ∧ (neg = false → r.head? ≠ some 45)) → (fst = false → p = Dig.dec (sg neg u) ∧ (neg = true → 1 ≤ u) ∧ u ≤ most) → numL neg most fst u r = devP lo hi (p ++ r)
  | [], fst, u, p, hf, hd => by
    rw [numL, List.append_nil]
    cases fst with
    | true =>
      obtain ⟨-, rfl, -⟩ := hf rfl
      cases neg with
      | true =>
        have hl : lead (sP true) = [45] := by decide
        unfold devP
        rw [hl, if_pos ⟨.inr ⟨rfl, by have := hn rfl; omega⟩, rfl⟩]
      | false =>
        have hl : lead (sP false) = [] := by decide
        unfold devP
        rw [hl, if_pos ⟨.inl rfl, rfl⟩]
    | false =>
      obtain ⟨rfl, hu, hm⟩ := hd rfl
      have hr : lo ≤ sg neg u ∧ sg neg u ≤ hi := by
        unfold sg
        cases neg with
        | true => have := hn rfl; simp only [if_pos]; omega
        | false => have := hp rfl; rw [if_neg (by decide)]; omega
      exact (devP_pre (q := crlf) (v := sg neg u) (by omega) (by omega) hr.1 hr.2 h0 h1 (by decide) rfl).symm
  | c :: r, fst, u, p, hf, hd => by
    have hrange : fst = false → lo ≤ sg neg u ∧ sg neg u ≤ hi := by
      intro h
      obtain ⟨-, -, hm⟩ := hd h
      unfold sg
      cases neg with
      | true => have := hn rfl; simp only [if_pos]; omega
      | false => have := hp rfl; rw [if_neg (by decide)]; omega
    have hpl : p.length ≤ 20 ∧ ∀ x ∈ p, numC.contains x = true := by
      cases fst with
      | true =>
        obtain ⟨-, rfl, -⟩ := hf rfl
        cases neg <;> exact ⟨by decide, by decide⟩
      | false =>
        obtain ⟨rfl, -, -⟩ := hd rfl
        have := hrange rfl
        exact ⟨dec20 (by omega) (by omega), fun x hx => dec_numC hx⟩
    rw [numL]
    by_cases hdg : 48 ≤ c.toNat ∧ c.toNat ≤ 57
    · rw [if_pos hdg]
      have hc13 : c ≠ 13 := by rintro rfl; exact absurd hdg.1 (by decide)
      have hc45 : c ≠ 45 := by rintro rfl; exact absurd hdg.1 (by decide)
      have hall : ∀ x ∈ p ++ [c], numC.contains x = true := by
        intro x hx
        rcases List.mem_append.1 hx with hx | hx
        · exact hpl.2 x hx
        · rw [List.mem_singleton.1 hx]; exact digit_numC hdg
      have hne45 : p ++ [c] ≠ [45] := by
        intro h
        cases p with
        | nil => simp at h; exact hc45 h
        | cons a p => simp at h
      -- the prefix as a decimal
      have hL : ¬ (fst = false ∧ u = 0) → p ++ [c] = sP neg ++ Dig.digs (10 * u + (c.toNat - 48)) := by
        intro h
        cases fst with
        | true =>
          obtain ⟨rfl, rfl, -⟩ := hf rfl
          rw [Nat.mul_zero, Nat.zero_add, digs_one hdg]
        | false =>
          obtain ⟨hpe, hu, -⟩ := hd rfl
          rw [hpe, dec_sg hu, digs_snoc (by have : u ≠ 0 := fun e => h ⟨rfl, e⟩
                                            omega) hdg, List.append_assoc]
      by_cases hrej : (fst = false ∧ u = 0) ∨ (neg = true ∧ fst = true ∧ c.toNat = 48) ∨ most < 10 * u + (c.toNat - 48)
      · rw [if_pos hrej]
        refine (dev_rej hall hc13 hpl.1 hne45 fun v hv0 hv1 q hq => ?_).symm
        obtain ⟨v', hv', ha, hb⟩ := dec_pre (p := p ++ [c]) (q := q) (by simp) hne45 hq
        have hr' : lo ≤ v' ∧ v' ≤ hi := by
          by_cases h : 0 ≤ v
          · have := ha h; omega
          · have := hb (by omega); omega
        by_cases hi' : fst = false ∧ u = 0
        · obtain ⟨h2, rfl⟩ := hi'
          obtain ⟨hpe, hu, -⟩ := hd h2
          cases neg with
          | true => have := hu rfl; omega
          | false =>
            have e : p = [48] := by rw [hpe, dec_sg (fun h => by cases h), Dig.digs_small (by decide)]; rfl
            rw [e] at hv'
            have h3 := (dec_plus hv'.symm (by decide)).2
            have h4 := digs_head0 v'.toNat (by rw [h3]; rfl)
            rw [h4] at h3
            have := congrArg List.length h3
            rw [Dig.digs_small (by decide)] at this
            simp at this
        · have hLL := hL hi'
          rw [hv'] at hLL
          cases neg with
          | true =>
            have hLL' : Dig.dec v' = 45 :: Dig.digs (10 * u + (c.toNat - 48)) := hLL
            obtain ⟨hneg, h3⟩ := dec_minus hLL'
            have h4 := digs_inj h3
            have hlo' := (hn rfl).1
            rcases hrej with h | h | h
            · exact hi' h
            · obtain ⟨-, h5, h6⟩ := h
              have := (hf h5).1
              omega
            · omega
          | false =>
            have hLL' : Dig.dec v' = Dig.digs (10 * u + (c.toNat - 48)) := hLL
            obtain ⟨x, xs, hx, hx1, -⟩ := digs_cons (10 * u + (c.toNat - 48))
            have hx45 : x ≠ 45 := by rintro rfl; exact absurd hx1 (by decide)
            rw [hx] at hLL'
            obtain ⟨hpos, h3⟩ := dec_plus hLL' hx45
            rw [← hx] at h3
            have h4 := digs_inj h3
            have hhi' := hp rfl
            rcases hrej with h | h | h
            · exact hi' h
            · cases h.1
            · omega
      · rw [if_neg hrej]
        have h2 : ¬ (fst = false ∧ u = 0) := fun h => hrej (.inl h)
        have h3 : neg = true → 1 ≤ 10 * u + (c.toNat - 48) := by
          intro hneg
          cases hfs : fst with
          | true =>
            have : c.toNat ≠ 48 := fun e => hrej (.inr (.inl ⟨hneg, hfs, e⟩))
            omega
          | false =>
            have : u ≠ 0 := fun e => h2 ⟨hfs, e⟩
            omega
        have h4 : 10 * u + (c.toNat - 48) ≤ most := by
          have : ¬ most < 10 * u + (c.toNat - 48) := fun h => hrej (.inr (.inr h))
          omega
        rw [numL_dev h0 h1 hlo hhi hn hp r false (10 * u + (c.toNat - 48)) (p ++ [c]) (fun h => by cases h) (fun _ => ⟨by rw [dec_sg h3]; exact hL h2, h3, h4⟩)]
        rw [List.append_assoc]
        rfl
    · rw [if_neg hdg]
      cases fst with
      | true =>
        rw [if_pos rfl]
        obtain ⟨-, rfl, hhd⟩ := hf rfl
        by_cases hc : numC.contains c = true
        · rcases numC_cases hc with rfl | h
          · cases neg with
            | false => exact (hhd rfl rfl).elim
            | true =>
              refine (dev_rej (p := [45]) (c := 45) (by decide) (by decide) (by decide) (by decide) fun v _ _ q hq => ?_).symm
              have := (dec_minus hq.symm).2
              exact not_in_digs (u := (-v).toNat) (by rw [this]; simp)
          · exact (hdg h).elim
        · refine (devP_bad (fun x hx => hpl.2 x hx) hpl.1 (by simpa using hc) fun v hv _ => ?_).symm
          cases neg with
          | true => exact dec_ne_minus v hv
          | false => exact dec_ne v hv
      | false =>
        rw [if_neg (by decide)]
        obtain ⟨rfl, hu, hm⟩ := hd rfl
        have hr := hrange rfl
        by_cases hc : numC.contains c = true
        · rcases numC_cases hc with rfl | h
          · obtain ⟨x, xs, hx⟩ := dec_cons (sg neg u)
            have e5 : endP (if neg = true then -(u : Int) else (u : Int)) (45 :: r) = .err 5 := by
              simp [endP]
            rw [e5]
            refine (dev_rej (fun y hy => ?_) (by decide) hpl.1 (by rw [hx]; simp) fun v _ _ q hq => ?_).symm
            · rcases List.mem_append.1 hy with hy | hy
              · exact hpl.2 y hy
              · rw [List.mem_singleton.1 hy]; exact hc
            · rw [hx] at hq
              exact dec_no_minus (v := v) (x := x) (xs := xs ++ [45] ++ q) (by rw [← hq]; simp) (by simp)
          · exact (hdg h).elim
        · rw [devP_dec (by omega) (by omega) hr.1 hr.2 (by simpa using hc), textP_end, endP_map]
          rfl

theorem devP_minus0 {hi : Int} (r : List UInt8) : devP 0 hi (45 :: r) = .err 5 := by
  have hl : ∃ s, lead (45 :: r) = 45 :: s := by
    unfold lead
    rw [show (20 : Nat) = 19 + 1 from rfl, List.take_succ_cons, List.takeWhile_cons, if_pos (by decide)]
    exact ⟨_, rfl⟩
  obtain ⟨s, hl⟩ := hl
  unfold devP
  rw [hl, if_neg (fun hh => by
    rcases hh.1 with h | h
    · cases h
    · exact absurd h.2 (by decide))]
  cases Lib.atoiAll (45 :: s) with
  | ok v =>
    simp only
    rw [if_neg (fun hh => by have := (dec_minus hh.1).1; omega)]
  | «syntax» => rfl
  | range => rfl

theorem refN_up {most : Nat} (hm : most ≤ 9223372036854775807) (bs : List UInt8) : refN false most bs = devP 0 (most : Int) bs := by
  unfold refN
  by_cases h : bs.head? = some 45
  · rw [if_pos h, if_neg (by decide)]
    cases bs with
    | nil => cases h
    | cons x r =>
      simp at h
      subst h
      exact (devP_minus0 r).symm
  · rw [if_neg h]
    exact numL_dev (neg := false) (Int.le_refl _) (by omega) (by decide) (by omega) (fun h => by cases h) (fun _ => rfl) bs true 0 [] (fun _ => ⟨rfl, rfl, fun _ => h⟩) (fun h => by cases h)
theorem refN_all (bs : List UInt8) : refN true 9223372036854775807 bs = devP (-9223372036854775808) 9223372036854775807 bs := by
  unfold refN
  by_cases h : bs.head? = some 45
  · rw [if_pos h, if_pos rfl]
    cases bs with
    | nil => cases h
    | cons x r =>
      simp at h
      subst h
      exact numL_dev (neg := true) (by decide) (by decide) (by decide) (by decide) (fun _ => ⟨by decide, by decide⟩) (fun h => by cases h) r true 0 [45] (fun _ => ⟨rfl, rfl, fun h => by cases h⟩) (fun h => by cases h)
  · rw [if_neg h]
    exact numL_dev (neg := false) (by decide) (by decide) (by decide) (by decide) (fun h => by cases h) (fun _ => by decide) bs true 0 [] (fun _ => ⟨rfl, rfl, fun _ => h⟩) (fun h => by cases h)

/-- an RBulk, or the RNil. -/
def bulkR (bs : List UInt8) : Out R :=
  if bs.head? = some 45 then (match bs.drop 1 with
    | [] => .err 6
    | c :: r => if c = 49 then endP (.mk 5 [] 0 []) r else .err 5)
  else (refN false 1048576 bs).bind fun n r => if (r.length : Int) < n then .err 6 else endP (.mk 4 (r.take n.toNat) 0 []) (r.drop n.toNat)

theorem endP_bind {α β : Type} (a : α) (f : α → List UInt8 → Out β) (b : β) (hf : ∀ t, f a t = .ok b t) (r : List UInt8) : (endP a r).bind f = endP b r := by
  unfold endP
  cases r with
  | nil => rfl
  | cons x r =>
    simp only
    split
    · cases r with
      | nil => rfl
      | cons y t =>
        simp only
        split
        · exact hf t
        · rfl
    · rfl
theorem bulkR_dev (bs : List UInt8) : bulkR bs = bulkD bs := by
  unfold bulkR bulkD
  by_cases h : bs.head? = some 45
  · rw [if_pos h]
    cases bs with
    | nil => cases h
    | cons x r =>
      simp at h
      subst h
      have e := numL_dev (neg := true) (most := 1) (lo := -1) (hi := 1048576) (by decide) (by decide) (by decide) (by decide) (fun _ => ⟨by decide, by decide⟩) (fun h => by cases h) r true 0 [45] (fun _ => ⟨rfl, rfl, fun h => by cases h⟩) (fun h => by cases h)
      rw [List.singleton_append] at e
      rw [← e, List.drop_succ_cons, List.drop_zero]
      cases r with
      | nil => rfl
      | cons c r =>
        simp only
        rw [numL]
        by_cases h1 : c = 49
        · subst h1
          rw [if_pos rfl, if_pos (by decide), if_neg (by decide)]
          have h2 : numL true 1 false (10 * 0 + ((49 : UInt8).toNat - 48)) r = endP (-1 : Int) r := by
            cases r with
            | nil => rfl
            | cons c r =>
              rw [numL]
              by_cases hd : 48 ≤ c.toNat ∧ c.toNat ≤ 57
              · rw [if_pos hd, if_pos (.inr (.inr (by have : (49 : UInt8).toNat = 49 := rfl
                                                      omega)))]
                have hc13 : c ≠ 13 := by rintro rfl; exact absurd hd.1 (by decide)
                show _ = (if c = 13 then _ else _)
                rw [if_neg hc13]
              · rw [if_neg hd, if_neg (by decide)]
                rfl
          rw [h2, endP_bind (-1 : Int) _ (.mk 5 [] 0 []) (fun t => by rw [if_pos (by decide)])]
        · rw [if_neg h1]
          by_cases hd : 48 ≤ c.toNat ∧ c.toNat ≤ 57
          · rw [if_pos hd, if_pos (.inr (by
              by_cases h0 : c.toNat = 48
              · exact .inl ⟨rfl, rfl, h0⟩
              · right
                have : c.toNat ≠ 49 := fun e => h1 (UInt8.toNat_inj.1 e)
                omega))]
            rfl
          · rw [if_neg hd, if_pos rfl]
            rfl
  · rw [if_neg h, refN_up (by decide)]
    -- the bounds differ below nought alone
    have e : devP 0 ((1048576 : Nat) : Int) bs = devP (-1) 1048576 bs := by
      have a1 := numL_dev (neg := false) (most := 1048576) (lo := 0) (hi := 1048576) (by decide) (by decide) (by decide) (by decide) (fun h => by cases h) (fun _ => by decide) bs true 0 [] (fun _ => ⟨rfl, rfl, fun _ => h⟩) (fun h => by cases h)
      have a2 := numL_dev (neg := false) (most := 1048576) (lo := -1) (hi := 1048576) (by decide) (by decide) (by decide) (by decide) (fun h => by cases h) (fun _ => by decide) bs true 0 [] (fun _ => ⟨rfl, rfl, fun _ => h⟩) (fun h => by cases h)
      exact a1.symm.trans a2
    rw [e]
    cases hd : devP (-1) 1048576 bs with
    | err c => rfl
    | ok n r =>
      have hn0 : 0 ≤ n := by
        have := (devP_inv (lo := 0) (hi := ((1048576 : Nat) : Int)) (e.trans hd)).2.1
        exact this
      show (if (r.length : Int) < n then _ else _) = (if n < 0 then _ else _)
      rw [if_neg (show ¬ n < 0 by omega)]
      unfold textP
      by_cases hl : r.length < n.toNat
      · rw [if_pos (by omega), if_pos hl]; rfl
      · rw [if_neg (by omega), if_neg hl]
        generalize r.drop n.toNat = r'
        generalize r.take n.toNat = s
        unfold endP
        cases r' with
        | nil => rfl
        | cons x r' =>
          simp only
          split
          · cases r' with
            | nil => rfl
            | cons y t =>
              simp only
              split <;> rfl
          · rfl

/-- a text up to a line's end, byte by byte. -/
def lineL (pre : List UInt8) : List UInt8 → Out (List UInt8)
  | [] => .err 6
  | c :: r => if c = 13 then endP pre (c :: r) else if c = 10 ∨ 512 ≤ pre.length then .err 5 else lineL (pre ++ [c]) r
theorem lineL_dev : ∀ (r pre : List UInt8), plainB pre = true → pre.length ≤ 512 → lineL pre r = lineP (pre ++ r)
  | [], pre, hp, hl => by
    rw [lineL]
    unfold lineP
    have hr : (pre ++ []).takeWhile (fun b => b != 13 && b != 10) = pre := by
      rw [List.append_nil]
      exact takeWhile_self pre fun c hc => List.all_eq_true.1 hp c hc
    rw [hr]
    simp only
    rw [if_neg (by omega), List.drop_left]
    rfl
  | c :: r, pre, hp, hl => by
    rw [lineL]
    have hpp : ∀ x ∈ pre, (x != 13 && x != 10) = true := fun x hx => List.all_eq_true.1 hp x hx
    by_cases h13 : c = 13
    · rw [if_pos h13]
      unfold lineP
      rw [takeWhile_app pre c r hpp (by rw [h13]; decide)]
      simp only
      rw [if_neg (by omega), List.drop_left]
    · rw [if_neg h13]
      by_cases h10 : c = 10
      · rw [if_pos (.inl h10)]
        unfold lineP
        rw [takeWhile_app pre c r hpp (by rw [h10]; decide)]
        simp only
        rw [if_neg (by omega), List.drop_left]
        show _ = (if c = 13 then _ else _)
        rw [if_neg h13]
      · have hcp : (c != 13 && c != 10) = true := by simp [h13, h10]
        by_cases h512 : 512 ≤ pre.length
        · rw [if_pos (.inr h512)]
          unfold lineP
          have : 512 < ((pre ++ c :: r).takeWhile (fun b => b != 13 && b != 10)).length := by
            rw [show pre ++ c :: r = (pre ++ [c]) ++ r by simp, List.takeWhile_append_of_pos (fun x hx => by
              rcases List.mem_append.1 hx with hx | hx
              · exact hpp x hx
              · rw [List.mem_singleton.1 hx]; exact hcp)]
            simp
            omega
          simp only
          rw [if_pos this]
        · rw [if_neg (by rintro (h | h); exact h10 h; exact h512 h), lineL_dev r (pre ++ [c]) (by
            unfold plainB
            rw [List.all_append, show pre.all _ = true from hp]
            simp [h13, h10]) (by simp; omega)]
          rw [List.append_assoc]
          rfl
end Rp
end Go.Proofs.YtcjbfgkmpoebgaaDoor
