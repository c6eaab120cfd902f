/- What the reader tells of a reply's own bytes: the reply. No program in it. What was read is what stands there: replyD d b = ok r t gives b = enc r ++ t. Of each beginning of a reply's bytes more is asked for. Texts that are no numbers' replies. No program in it. What the reference reads, as plain functions; that it is what the reader reads. No program in it. -/
import Derived.Test.YtbkhnnjjpelfcaaGreatDoorRpBulk
import Derived.Test.YtbkhnnjjpelfcaaGreatDoorTxPlain
import Derived.Test.YtbkhnnjjpelfcaaGreatDoorRpPut
import Derived.Test.YtbkhnnjjpelfcaaGreatDoorRpArray
namespace Go.Proofs.YtbkhnnjjpelfcaaGreatDoor
namespace Rp

/-! numbers -/
theorem parse_fold : ∀ (l : List UInt8) (acc : Nat), (∀ c ∈ l, Tx.isD c = true) → l.foldl (fun u c => 10 * u + (c.toNat - 48)) acc < 18446744073709551616 → Lib.parseUint10 acc l = .ok (l.foldl (fun u c => 10 * u + (c.toNat - 48)) acc)
  | [], acc, _, _ => rfl
  | c :: r, acc, hd, hb => by
    have hc := hd c (by simp)
    unfold Tx.isD at hc
    rw [Bool.and_eq_true, decide_eq_true_eq, decide_eq_true_eq] at hc
    rw [List.foldl_cons] at hb ⊢
    have hle := Tx.fold_le r (10 * acc + (c.toNat - 48))
    have ih := parse_fold r (10 * acc + (c.toNat - 48)) (fun x hx => hd x (by simp [hx])) hb
    unfold Lib.parseUint10
    rw [if_pos hc, if_neg (by omega), if_neg (by omega), show acc * 10 + (c.toNat - 48) = 10 * acc + (c.toNat - 48) by omega]
    exact ih

theorem digs_isD {u : Nat} {c : UInt8} (h : c ∈ Dig.digs u) : Tx.isD c = true := by
  have := (Tx.digs_val u).2
  unfold Tx.digB at this
  rw [List.all_eq_true] at this
  exact this c h

theorem mag_digs {u : Nat} (h : u < 18446744073709551616) : Lib.parseMag (Dig.digs u) = .ok u := by
  have hv := (Tx.digs_val u).1
  unfold Tx.valD at hv
  unfold Lib.parseMag
  rw [if_neg (Tx.digs_ne u), parse_fold (Dig.digs u) 0 (fun c hc => digs_isD hc) (by rw [hv]; exact h), hv]

theorem digs_cons (u : Nat) : ∃ c r, Dig.digs u = c :: r ∧ 48 ≤ c.toNat ∧ c.toNat ≤ 57 := by
  cases hd : Dig.digs u with
  | nil => exact absurd hd (Tx.digs_ne u)
  | cons c r =>
    refine ⟨c, r, rfl, ?_⟩
    have := digs_isD (u := u) (c := c) (by rw [hd]; simp)
    unfold Tx.isD at this
    rw [Bool.and_eq_true, decide_eq_true_eq, decide_eq_true_eq] at this
    exact this

theorem atoi_dec {n : Int} (h0 : -9223372036854775808 ≤ n) (h1 : n ≤ 9223372036854775807) : Lib.atoiAll (Dig.dec n) = .ok n := by
  by_cases hn : n < 0
  · have e : Dig.dec n = 45 :: Dig.digs (-n).toNat := by unfold Dig.dec; rw [if_pos hn]
    rw [e]
    unfold Lib.atoiAll
    have h45 : (45 : UInt8).toNat = 45 := rfl
    simp only [h45]
    rw [if_pos (.inr trivial), mag_digs (by omega)]
    simp only [not_true, false_and, if_false, true_and, if_true]
    rw [if_neg (by omega)]
    congr 1
    omega
  · have e : Dig.dec n = Dig.digs n.toNat := by unfold Dig.dec; rw [if_neg hn]
    rw [e]
    obtain ⟨c, r, hc, c0, c1⟩ := digs_cons n.toNat
    have hm := mag_digs (u := n.toNat) (by omega)
    rw [hc] at hm ⊢
    unfold Lib.atoiAll
    have h45 : ¬ c.toNat = 45 := by omega
    have h43 : ¬ c.toNat = 43 := by omega
    simp only [h45, h43, or_self, if_false, hm, not_false_eq_true, true_and, false_and]
    rw [if_neg (by omega)]
    congr 1
    omega

theorem numC_digit {c : UInt8} (h : Tx.isD c = true) : numC.contains c = true := by
  unfold Tx.isD at h
  rw [Bool.and_eq_true, decide_eq_true_eq, decide_eq_true_eq] at h
  obtain ⟨h1, h2⟩ := h
  have hc : c = UInt8.ofNat c.toNat := by simp
  have hk : c.toNat = 48 ∨ c.toNat = 49 ∨ c.toNat = 50 ∨ c.toNat = 51 ∨ c.toNat = 52 ∨ c.toNat = 53 ∨ c.toNat = 54 ∨ c.toNat = 55 ∨ c.toNat = 56 ∨ c.toNat = 57 := by omega
  rcases hk with hk | hk | hk | hk | hk | hk | hk | hk | hk | hk <;> (rw [hk] at hc; subst hc; decide)
theorem dec_numC {n : Int} {c : UInt8} (h : c ∈ Dig.dec n) : numC.contains c = true := by
  unfold Dig.dec at h
  split at h
  · rcases List.mem_cons.1 h with rfl | h
    · decide
    · exact numC_digit (digs_isD h)
  · exact numC_digit (digs_isD h)
theorem dec_ne (n : Int) : Dig.dec n ≠ [] := by
  unfold Dig.dec
  split
  · simp
  · exact Tx.digs_ne _
theorem dec_ne_minus (n : Int) : Dig.dec n ≠ [45] := by
  unfold Dig.dec
  split
  · intro h
    simp only [List.cons.injEq, true_and] at h
    exact Tx.digs_ne _ h
  · obtain ⟨c, r, hc, c0, c1⟩ := digs_cons n.toNat
    rw [hc]
    intro h
    simp only [List.cons.injEq] at h
    rw [h.1] at c0
    exact absurd c0 (by decide)

theorem takeWhile_app {p : UInt8 → Bool} : ∀ (L : List UInt8) (x : UInt8) (t : List UInt8), (∀ c ∈ L, p c = true) → p x = false → (L ++ x :: t).takeWhile p = L
  | [], x, t, _, hx => by simp [hx]
  | c :: L, x, t, h, hx => by
    rw [List.cons_append, List.takeWhile_cons, if_pos (h c (by simp)), takeWhile_app L x t (fun y hy => h y (by simp [hy])) hx]
theorem takeWhile_self {p : UInt8 → Bool} : ∀ (L : List UInt8), (∀ c ∈ L, p c = true) → L.takeWhile p = L
  | [], _ => rfl
  | c :: L, h => by rw [List.takeWhile_cons, if_pos (h c (by simp)), takeWhile_self L (fun y hy => h y (by simp [hy]))]
theorem lead_app {L : List UInt8} {x : UInt8} {t : List UInt8} (hL : ∀ c ∈ L, numC.contains c = true) (hl : L.length ≤ 20) (hx : numC.contains x = false) : lead (L ++ x :: t) = L := by
  unfold lead
  by_cases h : L.length = 20
  · rw [List.take_append_of_le_length (by omega), List.take_of_length_le (by omega)]
    exact takeWhile_self L hL
  · obtain ⟨m, hm⟩ : ∃ m, 20 = L.length + (m + 1) := ⟨20 - L.length - 1, by omega⟩
    rw [hm, List.take_append, List.take_of_length_le (by omega), show L.length + (m + 1) - L.length = m + 1 by omega, List.take_succ_cons]
    exact takeWhile_app L x _ hL hx

theorem textP_app (s t : List UInt8) : textP s.length (s ++ crlf ++ t) = .ok s t := by
  unfold textP
  rw [if_neg (by simp)]
  have e1 : (s ++ crlf ++ t).take s.length = s := by rw [List.append_assoc, List.take_left]
  have e2 : (s ++ crlf ++ t).drop s.length = crlf ++ t := by rw [List.append_assoc, List.drop_left]
  rw [e1, e2]
  rfl
theorem textP_bad (s t : List UInt8) (x : UInt8) (hx : x ≠ 13) : textP s.length (s ++ x :: t) = .err 5 := by
  unfold textP
  rw [if_neg (by simp)]
  have e2 : (s ++ x :: t).drop s.length = x :: t := by rw [List.drop_left]
  rw [e2]
  show (if x = 13 then _ else _) = _
  rw [if_neg hx]

theorem dec20 {n : Int} (h0 : -9223372036854775808 ≤ n) (h1 : n ≤ 9223372036854775807) : (Dig.dec n).length ≤ 20 := by
  unfold Dig.dec
  split
  · have := Dig.digs_len20 (u := (-n).toNat) (by omega)
    simp only [List.length_cons]; omega
  · have := Dig.digs_len20 (u := n.toNat) (by omega)
    omega
/-- behind a decimal in range: what the text's reader tells. -/
theorem devP_dec {lo hi n : Int} (h0 : -9223372036854775808 ≤ n) (h1 : n ≤ 9223372036854775807) (hlo : lo ≤ n) (hhi : n ≤ hi) {x : UInt8} (hx : numC.contains x = false) (t : List UInt8) :
    devP lo hi (Dig.dec n ++ x :: t) = (textP (Dig.dec n).length (Dig.dec n ++ x :: t)).map fun _ => n := by
  have hl := lead_app (x := x) (t := t) (fun c hc => dec_numC (n := n) hc) (dec20 h0 h1) hx
  unfold devP
  rw [hl, if_neg (fun h => by
    have := h.2
    simp at this), atoi_dec h0 h1]
  show (if Dig.dec n = Dig.dec n ∧ lo ≤ n ∧ n ≤ hi then _ else _) = _
  rw [if_pos ⟨rfl, hlo, hhi⟩]
theorem devP_ok {lo hi n : Int} (h0 : -9223372036854775808 ≤ n) (h1 : n ≤ 9223372036854775807) (hlo : lo ≤ n) (hhi : n ≤ hi) (t : List UInt8) :
    devP lo hi (Dig.dec n ++ crlf ++ t) = .ok n t := by
  have h := devP_dec h0 h1 hlo hhi (x := 13) (by decide) (10 :: t)
  have e : Dig.dec n ++ crlf ++ t = Dig.dec n ++ 13 :: 10 :: t := by rw [List.append_assoc]; rfl
  have h2 := textP_app (Dig.dec n) t
  rw [e] at h2 ⊢
  rw [h, h2]
  rfl
/-- what is no decimal's beginning, or one out of range, is refused. -/
theorem devP_bad {lo hi : Int} {L : List UInt8} {x : UInt8} {t : List UInt8} (hL : ∀ c ∈ L, numC.contains c = true) (hl : L.length ≤ 20) (hx : numC.contains x = false) (h : ∀ v, Dig.dec v = L → ¬ (lo ≤ v ∧ v ≤ hi)) :
    devP lo hi (L ++ x :: t) = .err 5 := by
  unfold devP
  rw [lead_app hL hl hx, if_neg (fun h => by
    have := h.2
    simp at this)]
  cases ha : Lib.atoiAll L with
  | ok v =>
    simp only
    rw [if_neg (fun hh => h v hh.1 hh.2)]
  | «syntax» => rfl
  | range => rfl

/-! lines, texts -/
theorem lineP_app {s : List UInt8} (hp : plainB s = true) (hl : s.length ≤ 512) (t : List UInt8) : lineP (s ++ crlf ++ t) = .ok s t := by
  have e : s ++ crlf ++ t = s ++ 13 :: 10 :: t := by rw [List.append_assoc]; rfl
  unfold lineP
  have hr : (s ++ crlf ++ t).takeWhile (fun b => b != 13 && b != 10) = s := by
    rw [e]
    refine takeWhile_app s 13 (10 :: t) (fun c hc => ?_) (by decide)
    unfold plainB at hp
    exact List.all_eq_true.1 hp c hc
  rw [hr]
  simp only
  rw [if_neg (by omega), e, List.drop_left]
  rfl
theorem bulkD_app {s : List UInt8} (hl : s.length ≤ 1048576) (t : List UInt8) : bulkD (Dig.dec (s.length : Int) ++ crlf ++ (s ++ crlf ++ t)) = .ok (.mk 4 s 0 []) t := by
  unfold bulkD
  rw [devP_ok (by omega) (by omega) (by omega) (by omega)]
  simp only [Out.bind]
  rw [if_neg (by omega), Int.toNat_natCast, textP_app]
  rfl
theorem bulkD_nil (t : List UInt8) : bulkD (Dig.dec (-1) ++ crlf ++ t) = .ok (.mk 5 [] 0 []) t := by
  unfold bulkD
  rw [devP_ok (by omega) (by omega) (by omega) (by omega)]
  rfl
theorem manyP_app {f : List UInt8 → Out R} : ∀ (l : List R) (t : List UInt8), (∀ r ∈ l, ∀ u, f (enc r ++ u) = .ok r u) → manyP f l.length (encL l ++ t) = .ok l t
  | [], t, _ => by simp [manyP, encL]
  | r :: l, t, h => by
    rw [List.length_cons, manyP, encL, List.append_assoc, h r (by simp)]
    show (manyP f l.length (encL l ++ t)).map _ = _
    rw [manyP_app l t (fun x hx => h x (by simp [hx]))]
    rfl

/-- a number that there is. -/
def NumOk (h : H) : Prop := -9223372036854775808 ≤ h.n ∧ h.n ≤ 9223372036854775807

theorem markD_str {A : List UInt8 → Out R} {s : List UInt8} (hp : plainB s = true) (hl : s.length ≤ 512) (t : List UInt8) : markD A (43 :: (s ++ crlf ++ t)) = .ok (.mk 1 s 0 []) t ∧ markD A (45 :: (s ++ crlf ++ t)) = .ok (.mk 2 s 0 []) t := by
  constructor
  · show (lineP (s ++ crlf ++ t)).map _ = _
    rw [lineP_app hp hl]
    rfl
  · show (lineP (s ++ crlf ++ t)).map _ = _
    rw [lineP_app hp hl]
    rfl

mutual
theorem reply_enc : ∀ (r : R) (lev : Nat) (t : List UInt8), (∀ p ∈ heads lev r, okB p = true ∧ NumOk p.1) → lev ≤ 8 → replyD (8 - lev) (enc r ++ t) = .ok r t
  | .mk k s n l, lev, t, h, hlev => by
    have hh := h (⟨k, s, n, l.length⟩, lev) (by rw [heads_eq]; simp [R.k, R.s, R.n, R.l])
    obtain ⟨hok, hn0, hn1⟩ := hh
    unfold okB at hok
    rw [Bool.and_eq_true] at hok
    obtain ⟨hf, hd⟩ := hok
    unfold fitsB at hf
    simp only at hf hn0 hn1 hd
    have hm : ∀ d, replyD d = markD (match d with | 0 => fun _ => .err 5 | d + 1 => arrD (replyD d)) := fun d => by cases d <;> rfl
    rw [hm, enc]
    by_cases h1 : k = 1 ∨ k = 2
    · rw [if_pos h1] at hf
      simp only [Bool.and_eq_true, decide_eq_true_eq] at hf
      obtain ⟨⟨⟨hl, hp⟩, hn⟩, hl0⟩ := hf
      obtain rfl := List.eq_nil_of_length_eq_zero hl0
      subst hn
      rcases h1 with rfl | rfl
      · have e : own ⟨1, s, 0, ([] : List R).length⟩ ++ encL [] ++ t = 43 :: (s ++ crlf ++ t) := by simp [own, encL]
        rw [e]; exact (markD_str hp hl t).1
      · have e : own ⟨2, s, 0, ([] : List R).length⟩ ++ encL [] ++ t = 45 :: (s ++ crlf ++ t) := by simp [own, encL]
        rw [e]; exact (markD_str hp hl t).2
    · rw [if_neg h1] at hf
      by_cases h3 : k = 3
      · rw [if_pos h3] at hf
        simp only [Bool.and_eq_true, decide_eq_true_eq] at hf
        obtain ⟨rfl, hl0⟩ := hf
        obtain rfl := List.eq_nil_of_length_eq_zero hl0
        subst h3
        have e : own ⟨3, [], n, ([] : List R).length⟩ ++ encL [] ++ t = 58 :: (Dig.dec n ++ crlf ++ t) := by simp [own, encL]
        rw [e]
        show (devP _ _ (Dig.dec n ++ crlf ++ t)).map _ = _
        rw [devP_ok hn0 hn1 hn0 hn1]
        rfl
      · rw [if_neg h3] at hf
        by_cases h4 : k = 4
        · rw [if_pos h4] at hf
          simp only [Bool.and_eq_true, decide_eq_true_eq] at hf
          obtain ⟨⟨hl, rfl⟩, hl0⟩ := hf
          obtain rfl := List.eq_nil_of_length_eq_zero hl0
          subst h4
          have e : own ⟨4, s, 0, ([] : List R).length⟩ ++ encL [] ++ t = 36 :: (Dig.dec (s.length : Int) ++ crlf ++ (s ++ crlf ++ t)) := by simp [own, encL]
          rw [e]
          exact bulkD_app hl t
        · rw [if_neg h4] at hf
          by_cases h5 : k = 5
          · rw [if_pos h5] at hf
            simp only [Bool.and_eq_true, decide_eq_true_eq] at hf
            obtain ⟨⟨rfl, rfl⟩, hl0⟩ := hf
            obtain rfl := List.eq_nil_of_length_eq_zero hl0
            subst h5
            have e : own ⟨5, [], 0, ([] : List R).length⟩ ++ encL [] ++ t = 36 :: (Dig.dec (-1) ++ crlf ++ t) := by simp [own, encL]
            rw [e]
            exact bulkD_nil t
          · rw [if_neg h5] at hf
            by_cases h6 : k = 6
            · rw [if_pos h6] at hf
              simp only [Bool.and_eq_true, decide_eq_true_eq] at hf
              obtain ⟨⟨rfl, rfl⟩, hl⟩ := hf
              subst h6
              have hlt : lev < 8 := by
                simp only [decide_true, Bool.true_and, Bool.not_eq_true', decide_eq_false_iff_not] at hd
                omega
              obtain ⟨d, hde⟩ : ∃ d, 8 - lev = d + 1 := ⟨8 - lev - 1, by omega⟩
              have hd2 : d = 8 - (lev + 1) := by omega
              rw [hde]
              have e : own ⟨6, [], 0, l.length⟩ ++ encL l ++ t = 42 :: (Dig.dec (l.length : Int) ++ crlf ++ (encL l ++ t)) := by simp [own]
              rw [e]
              show arrD (replyD d) (Dig.dec (l.length : Int) ++ crlf ++ (encL l ++ t)) = _
              unfold arrD
              rw [devP_ok (by omega) (by omega) (by omega) (by omega)]
              show (manyP (replyD d) (l.length : Int).toNat (encL l ++ t)).map _ = _
              rw [Int.toNat_natCast, manyP_app l t (fun r hr u => by
                rw [hd2]
                exact reply_encL l (lev + 1) (fun p hp => h p (by rw [heads_eq]; simp [R.l, hp])) (by omega) r hr u)]
              rfl
            · rw [if_neg h6] at hf
              cases hf
theorem reply_encL : ∀ (l : List R) (lev : Nat), (∀ p ∈ headsL lev l, okB p = true ∧ NumOk p.1) → lev ≤ 8 → ∀ r ∈ l, ∀ t, replyD (8 - lev) (enc r ++ t) = .ok r t
  | [], _, _, _, r, hr, _ => by cases hr
  | x :: l, lev, h, hlev, r, hr, t => by
    rcases List.mem_cons.1 hr with hx | hr
    · rw [hx]
      exact reply_enc x lev t (fun p hp => h p (by rw [headsL]; simp [hp])) hlev
    · exact reply_encL l lev (fun p hp => h p (by rw [headsL]; simp [hp])) hlev r hr t
end

/-- GET OF PUT. -/
theorem get_put {r : R} (h : mayB r = true) (hn : ∀ p ∈ heads 0 r, NumOk p.1) (t : List UInt8) : replyD 8 (enc r ++ t) = .ok r t := by
  unfold mayB at h
  rw [List.all_eq_true] at h
  exact reply_enc r 0 t (fun p hp => ⟨h p hp, hn p hp⟩) (by decide)
end Rp
end Go.Proofs.YtbkhnnjjpelfcaaGreatDoor
namespace Go.Proofs.YtbkhnnjjpelfcaaGreatDoor

namespace Rp
theorem endP_inv {α : Type} {a x : α} {bs t : List UInt8} (h : endP a bs = .ok x t) : x = a ∧ bs = crlf ++ t := by
  match bs, h with
  | [], h => cases h
  | [y], h =>
    rw [endP] at h
    by_cases e : y = 13
    · rw [if_pos e] at h; cases h
    · rw [if_neg e] at h; cases h
  | y :: z :: u, h =>
    rw [endP] at h
    by_cases e : y = 13
    · rw [if_pos e] at h
      by_cases e2 : z = 10
      · simp only [if_pos e2] at h
        injection h with h1 h2
        subst e e2 h1 h2
        exact ⟨rfl, rfl⟩
      · simp only [if_neg e2] at h
        cases h
    · rw [if_neg e] at h; cases h

theorem textP_inv {n : Nat} {bs s t : List UInt8} (h : textP n bs = .ok s t) : bs = s ++ crlf ++ t ∧ s = bs.take n ∧ s.length = n := by
  unfold textP at h
  split at h
  · cases h
  · obtain ⟨h1, h2⟩ := endP_inv h
    refine ⟨?_, h1, by rw [h1, List.length_take]; omega⟩
    rw [h1, List.append_assoc, ← h2, List.take_append_drop]

theorem lineP_inv {bs s t : List UInt8} (h : lineP bs = .ok s t) : bs = s ++ crlf ++ t := by
  unfold lineP at h
  simp only at h
  split at h
  · cases h
  · obtain ⟨h1, h2⟩ := endP_inv h
    have h3 : bs.take (bs.takeWhile fun b => b != 13 && b != 10).length = bs.takeWhile fun b => b != 13 && b != 10 := List.prefix_iff_eq_take.1 (List.takeWhile_prefix _) |>.symm
    rw [h1, List.append_assoc, ← h2]
    conv => lhs; rw [← List.take_append_drop (bs.takeWhile fun b => b != 13 && b != 10).length bs, h3]

theorem lead_take (bs : List UInt8) : bs.take (lead bs).length = lead bs := by
  have h1 : (lead bs) <+: bs := (List.takeWhile_prefix _).trans (List.take_prefix _ _)
  exact (List.prefix_iff_eq_take.1 h1).symm

theorem devP_inv {lo hi v : Int} {bs t : List UInt8} (h : devP lo hi bs = .ok v t) : bs = Dig.dec v ++ crlf ++ t ∧ lo ≤ v ∧ v ≤ hi := by
  unfold devP at h
  split at h
  · cases h
  · split at h
    · split at h
      · rename_i hd
        cases htx : textP (lead bs).length bs with
        | err e => rw [htx] at h; cases h
        | ok s u =>
          rw [htx] at h
          injection h with h1 h2
          subst h1 h2
          obtain ⟨h3, h4, _⟩ := textP_inv htx
          rw [lead_take, ← hd.1] at h4
          exact ⟨by rw [← h4]; exact h3, hd.2.1, hd.2.2⟩
      · cases h
    · cases h

theorem bulkD_inv {bs t : List UInt8} {r : R} (h : bulkD bs = .ok r t) : 36 :: bs = enc r ++ t := by
  unfold bulkD at h
  cases hd : devP (-1) 1048576 bs with
  | err e => rw [hd] at h; cases h
  | ok n u =>
    rw [hd] at h
    obtain ⟨h1, h2, h3⟩ := devP_inv hd
    simp only [Out.bind] at h
    split at h
    · injection h with h4 h5
      subst h4 h5
      obtain rfl : n = -1 := by omega
      rw [h1]
      simp [enc, encL, own, crlf]
    · cases htx : textP n.toNat u with
      | err e => rw [htx] at h; cases h
      | ok s w =>
        rw [htx] at h
        injection h with h4 h5
        subst h4 h5
        obtain ⟨h6, _, h8⟩ := textP_inv htx
        have e : n = (s.length : Int) := by omega
        rw [h1, h6, e]
        simp [enc, encL, own, crlf]

theorem manyP_inv {f : List UInt8 → Out R} (hf : ∀ b r t, f b = .ok r t → b = enc r ++ t) : ∀ (n : Nat) (bs t : List UInt8) (l : List R), manyP f n bs = .ok l t → l.length = n ∧ bs = encL l ++ t
  | 0, bs, t, l, h => by
    injection h with h1 h2
    subst h1 h2
    exact ⟨rfl, rfl⟩
  | n + 1, bs, t, l, h => by
    unfold manyP at h
    cases h1 : f bs with
    | err e => rw [h1] at h; cases h
    | ok r u =>
      rw [h1] at h
      simp only [Out.bind] at h
      cases h2 : manyP f n u with
      | err e => rw [h2] at h; cases h
      | ok l' w =>
        rw [h2] at h
        injection h with h3 h4
        rw [← h3, ← h4]
        obtain ⟨h5, h6⟩ := manyP_inv hf n u w l' h2
        refine ⟨by simp [h5], ?_⟩
        rw [hf bs r u h1, h6, encL, List.append_assoc]

theorem arrD_inv {f : List UInt8 → Out R} (hf : ∀ b r t, f b = .ok r t → b = enc r ++ t) {bs t : List UInt8} {r : R} (h : arrD f bs = .ok r t) : 42 :: bs = enc r ++ t := by
  unfold arrD at h
  cases hd : devP 0 65536 bs with
  | err e => rw [hd] at h; cases h
  | ok n u =>
    rw [hd] at h
    obtain ⟨h1, h2, h3⟩ := devP_inv hd
    simp only [Out.bind] at h
    cases hm : manyP f n.toNat u with
    | err e => rw [hm] at h; cases h
    | ok l w =>
      rw [hm] at h
      injection h with h4 h5
      subst h4 h5
      obtain ⟨h6, h7⟩ := manyP_inv hf _ _ _ _ hm
      have e : n = (l.length : Int) := by omega
      rw [h1, h7, e]
      simp [enc, own, crlf]

theorem markD_inv {A : List UInt8 → Out R} (hA : ∀ b r t, A b = .ok r t → 42 :: b = enc r ++ t) {bs t : List UInt8} {r : R} (h : markD A bs = .ok r t) : bs = enc r ++ t := by
  cases bs with
  | nil => cases h
  | cons x u =>
    rw [markD] at h
    split at h
    · rename_i e
      cases hl : lineP u with
      | err c => rw [hl] at h; cases h
      | ok s w =>
        rw [hl] at h
        injection h with h1 h2
        rw [← h1, ← h2, e, lineP_inv hl]
        simp [enc, encL, own, crlf]
    split at h
    · rename_i e
      cases hl : lineP u with
      | err c => rw [hl] at h; cases h
      | ok s w =>
        rw [hl] at h
        injection h with h1 h2
        rw [← h1, ← h2, e, lineP_inv hl]
        simp [enc, encL, own, crlf]
    split at h
    · rename_i e
      cases hl : devP (-9223372036854775808) 9223372036854775807 u with
      | err c => rw [hl] at h; cases h
      | ok n w =>
        rw [hl] at h
        injection h with h1 h2
        rw [← h1, ← h2, e, (devP_inv hl).1]
        simp [enc, encL, own, crlf]
    split at h
    · rename_i e
      rw [e]
      exact bulkD_inv h
    split at h
    · rename_i e
      rw [e]
      exact hA _ _ _ h
    · cases h

theorem replyD_inv : ∀ (d : Nat) (b : List UInt8) (r : R) (t : List UInt8), replyD d b = .ok r t → b = enc r ++ t
  | 0, b, r, t, h => by
    rw [replyD] at h
    exact markD_inv (fun _ _ _ h => by cases h) h
  | d + 1, b, r, t, h => by
    rw [replyD] at h
    exact markD_inv (fun _ _ _ h => arrD_inv (replyD_inv d) h) h
end Rp
end Go.Proofs.YtbkhnnjjpelfcaaGreatDoor
namespace Go.Proofs.YtbkhnnjjpelfcaaGreatDoor
set_option linter.unusedVariables false

namespace Rp
/-- where a beginning of two texts ends. -/
theorem pre_split {p q a b : List UInt8} (h : p ++ q = a ++ b) (hq : q ≠ []) : (∃ q', q' ≠ [] ∧ p ++ q' = a) ∨ ∃ p', p = a ++ p' ∧ p' ++ q = b := by
  rcases List.append_eq_append_iff.1 h with ⟨a', h1, h2⟩ | ⟨c', h1, h2⟩
  · by_cases e : a' = []
    · subst e
      exact .inr ⟨[], by simpa using h1.symm, by simpa using h2⟩
    · exact .inl ⟨a', e, h1.symm⟩
  · exact .inr ⟨c', h1, h2.symm⟩

theorem crlf_pre {p q : List UInt8} (hq : q ≠ []) (h : p ++ q = crlf) : p = [] ∨ p = [13] := by
  unfold crlf at h
  match p, h with
  | [], _ => exact .inl rfl
  | [x], h => simp at h; exact .inr (by rw [h.1])
  | [x, y], h => simp at h; exact absurd h.2.2 hq
  | x :: y :: z :: t, h => simp at h

theorem endP_pre {α : Type} (a : α) {p : List UInt8} (h : p = [] ∨ p = [13]) : endP a p = .err 6 := by
  rcases h with rfl | rfl <;> rfl

theorem textP_pre {s p q : List UInt8} (hq : q ≠ []) (h : p ++ q = s ++ crlf) : textP s.length p = .err 6 := by
  unfold textP
  rcases pre_split h hq with ⟨q', hq', h'⟩ | ⟨p', rfl, h'⟩
  · have := congrArg List.length h'
    rw [List.length_append] at this
    have : 0 < q'.length := List.length_pos_iff.2 hq'
    rw [if_pos (by omega)]
  · rw [if_neg (by rw [List.length_append]; omega), List.take_left, List.drop_left]
    exact endP_pre _ (crlf_pre hq h')

theorem lineP_pre {s p q : List UInt8} (hs : plainB s = true) (hl : s.length ≤ 512) (hq : q ≠ []) (h : p ++ q = s ++ crlf) : lineP p = .err 6 := by
  have hall : ∀ c ∈ s, (c != 13 && c != 10) = true := List.all_eq_true.1 hs
  unfold lineP
  rcases pre_split h hq with ⟨q', hq', h'⟩ | ⟨p', rfl, h'⟩
  · have hp : ∀ c ∈ p, (c != 13 && c != 10) = true := fun c hc => hall c (by rw [← h']; simp [hc])
    have hlp := congrArg List.length h'
    rw [List.length_append] at hlp
    simp only [takeWhile_self p hp]
    rw [if_neg (by omega), List.drop_length]
    rfl
  · rcases crlf_pre hq h' with rfl | rfl
    · rw [List.append_nil]
      simp only [takeWhile_self s hall]
      rw [if_neg (by omega), List.drop_length]
      rfl
    · have : (s ++ [13]).takeWhile (fun b => b != 13 && b != 10) = s := takeWhile_app s 13 [] hall (by decide)
      simp only [this]
      rw [if_neg (by omega), List.drop_left]
      rfl

theorem digs_pre : ∀ (u : Nat) (p q : List UInt8), p ≠ [] → p ++ q = Dig.digs u → ∃ u', u' ≤ u ∧ (1 ≤ u → 1 ≤ u') ∧ p = Dig.digs u' := by
  intro u
  induction u using Nat.strongRecOn with
  | ind u ih =>
    intro p q hp h
    rcases List.eq_nil_or_concat q with rfl | ⟨q', x, rfl⟩
    · exact ⟨u, Nat.le_refl _, id, by rw [← h, List.append_nil]⟩
    · rw [Dig.digs] at h
      by_cases hu : u < 10
      · rw [if_pos hu] at h
        have := congrArg List.length h
        have h2 : 0 < p.length := List.length_pos_iff.2 hp
        simp at this
        omega
      · rw [if_neg hu, List.concat_eq_append, ← List.append_assoc] at h
        have h3 := (List.append_inj' h rfl).1
        obtain ⟨u', h4, h5, h6⟩ := ih (u / 10) (by omega) p q' hp h3
        exact ⟨u', by omega, fun _ => h5 (by omega), h6⟩

theorem dec_pre {v : Int} {p q : List UInt8} (hp : p ≠ []) (hm : p ≠ [45]) (h : p ++ q = Dig.dec v) : ∃ v', p = Dig.dec v' ∧ (0 ≤ v → 0 ≤ v' ∧ v' ≤ v) ∧ (v < 0 → v ≤ v' ∧ v' < 0) := by
  unfold Dig.dec at h
  by_cases hv : v < 0
  · rw [if_pos hv] at h
    cases p with
    | nil => exact absurd rfl hp
    | cons x p' =>
      simp only [List.cons_append, List.cons.injEq] at h
      obtain ⟨rfl, h⟩ := h
      obtain ⟨u', h1, h2, h3⟩ := digs_pre _ p' q (fun e => hm (by rw [e])) h
      have h4 := h2 (by omega)
      refine ⟨-(u' : Int), ?_, fun h0 => by omega, fun _ => by omega⟩
      unfold Dig.dec
      rw [if_pos (by omega), show (- -(u' : Int)).toNat = u' by omega, h3]
  · rw [if_neg hv] at h
    obtain ⟨u', h1, h2, h3⟩ := digs_pre _ p q hp h
    refine ⟨(u' : Int), ?_, fun _ => by omega, fun h0 => by omega⟩
    unfold Dig.dec
    rw [if_neg (by omega), Int.toNat_natCast, h3]

theorem lead_all {p : List UInt8} (h : ∀ c ∈ p, numC.contains c = true) (hl : p.length ≤ 20) : lead p = p := by
  unfold lead
  rw [List.take_of_length_le hl]
  exact takeWhile_self p h

theorem devP_lead {lo hi v : Int} {p : List UInt8} (h0 : -9223372036854775808 ≤ v) (h1 : v ≤ 9223372036854775807) (hlo : lo ≤ v) (hhi : v ≤ hi) (hle : lead p = Dig.dec v) (hd : p.drop (Dig.dec v).length = [] ∨ p.drop (Dig.dec v).length = [13]) (hlen : (Dig.dec v).length ≤ p.length) : devP lo hi p = .err 6 := by
  unfold devP
  by_cases hc : (lead p = [] ∨ (lead p = [45] ∧ lo < 0)) ∧ (lead p).length = p.length
  · rw [if_pos hc]
  · rw [if_neg hc, hle, atoi_dec h0 h1]
    simp only
    rw [if_pos ⟨trivial, hlo, hhi⟩]
    unfold textP
    rw [if_neg (by omega), endP_pre _ hd]
    rfl

theorem devP_pre {lo hi v : Int} (h0 : -9223372036854775808 ≤ v) (h1 : v ≤ 9223372036854775807) (hlo : lo ≤ v) (hhi : v ≤ hi) (hz0 : lo ≤ 0) (hz1 : 0 ≤ hi) {p q : List UInt8} (hq : q ≠ []) (h : p ++ q = Dig.dec v ++ crlf) : devP lo hi p = .err 6 := by
  have hl := dec20 h0 h1
  rcases pre_split h hq with ⟨q', hq', h'⟩ | ⟨p', rfl, h'⟩
  · have hn : ∀ c ∈ p, numC.contains c = true := fun c hc => dec_numC (n := v) (by rw [← h']; simp [hc])
    have hlp := congrArg List.length h'
    rw [List.length_append] at hlp
    have hle := lead_all hn (by omega)
    by_cases hc : p = [] ∨ (p = [45] ∧ lo < 0)
    · unfold devP
      rw [hle, if_pos ⟨hc, rfl⟩]
    · have hp : p ≠ [] := fun e => hc (.inl e)
      have hm : p ≠ [45] := fun e => by
        refine hc (.inr ⟨e, ?_⟩)
        subst e
        unfold Dig.dec at h'
        by_cases hv : v < 0
        · omega
        · rw [if_neg hv] at h'
          have hd : Tx.isD 45 = true := digs_isD (u := v.toNat) (by rw [← h']; simp)
          exact absurd hd (by decide)
      obtain ⟨v', e1, e2, e3⟩ := dec_pre hp hm h'
      have hcase : 0 ≤ v ∨ v < 0 := by omega
      have hb : -9223372036854775808 ≤ v' ∧ v' ≤ 9223372036854775807 ∧ lo ≤ v' ∧ v' ≤ hi := by
        rcases hcase with hv | hv
        · have := e2 hv; omega
        · have := e3 hv; omega
      refine devP_lead hb.1 hb.2.1 hb.2.2.1 hb.2.2.2 (hle.trans e1) (.inl ?_) (by rw [← e1]; exact Nat.le_refl _)
      rw [← e1, List.drop_length]
  · have hn : ∀ c ∈ Dig.dec v, numC.contains c = true := fun c hc => dec_numC hc
    refine devP_lead h0 h1 hlo hhi ?_ ?_ (by rw [List.length_append]; omega)
    · rcases crlf_pre hq h' with rfl | rfl
      · rw [List.append_nil]; exact lead_all hn hl
      · exact lead_app hn hl (by decide)
    · rw [List.drop_left]
      exact crlf_pre hq h'

/-- a reply's bytes that end too soon. -/
def Asks (f : List UInt8 → Out R) (r : R) : Prop := ∀ p q, q ≠ [] → p ++ q = enc r → f p = .err 6

theorem manyP_pre {f : List UInt8 → Out R} : ∀ (l : List R), (∀ r ∈ l, Asks f r ∧ ∀ t, f (enc r ++ t) = .ok r t) → ∀ p q, q ≠ [] → p ++ q = encL l → manyP f l.length p = .err 6
  | [], _, p, q, hq, h => by
    rw [encL] at h
    exact absurd (List.append_eq_nil_iff.1 h).2 hq
  | r :: l, hr, p, q, hq, h => by
    rw [encL] at h
    rw [List.length_cons, manyP]
    rcases pre_split h hq with ⟨q', hq', h'⟩ | ⟨p', rfl, h'⟩
    · rw [(hr r (by simp)).1 p q' hq' h']
      rfl
    · rw [(hr r (by simp)).2 p']
      simp only [Out.bind]
      rw [manyP_pre l (fun x hx => hr x (by simp [hx])) p' q hq h']
      rfl

theorem bulk_pre {s : List UInt8} (hl : s.length ≤ 1048576) {p q : List UInt8} (hq : q ≠ []) (h : p ++ q = Dig.dec (s.length : Int) ++ crlf ++ (s ++ crlf)) : bulkD p = .err 6 := by
  unfold bulkD
  rcases pre_split h hq with ⟨q', hq', h'⟩ | ⟨p', rfl, h'⟩
  · rw [devP_pre (by omega) (by omega) (by omega) (by omega) (by omega) (by omega) hq' h']
    rfl
  · rw [devP_ok (by omega) (by omega) (by omega) (by omega)]
    simp only [Out.bind]
    rw [if_neg (by omega), Int.toNat_natCast, textP_pre hq h']
    rfl

mutual
theorem reply_pre : ∀ (r : R) (lev : Nat), (∀ p ∈ heads lev r, okB p = true ∧ NumOk p.1) → lev ≤ 8 → Asks (replyD (8 - lev)) r
  | .mk k s n l, lev, h, hlev => by
    intro p q hq he
    have hh := h (⟨k, s, n, l.length⟩, lev) (by rw [heads_eq]; simp [R.k, R.s, R.n, R.l])
    obtain ⟨hok, hn0, hn1⟩ := hh
    unfold okB at hok
    rw [Bool.and_eq_true] at hok
    obtain ⟨hf, hd⟩ := hok
    unfold fitsB at hf
    simp only at hf hn0 hn1 hd
    have hm : ∀ d, replyD d = markD (match d with | 0 => fun _ => .err 5 | d + 1 => arrD (replyD d)) := fun d => by cases d <;> rfl
    rw [enc] at he
    cases p with
    | nil => rw [hm]; rfl
    | cons x p =>
      by_cases h1 : k = 1 ∨ k = 2
      · rw [if_pos h1] at hf
        simp only [Bool.and_eq_true, decide_eq_true_eq] at hf
        obtain ⟨⟨⟨hl, hp⟩, hn⟩, hl0⟩ := hf
        obtain rfl := List.eq_nil_of_length_eq_zero hl0
        subst hn
        rcases h1 with rfl | rfl
        · have e : own ⟨1, s, 0, ([] : List R).length⟩ ++ encL [] = 43 :: (s ++ crlf) := by simp [own, encL]
          rw [e, List.cons_append, List.cons.injEq] at he
          obtain ⟨rfl, he⟩ := he
          rw [hm]
          show (lineP p).map _ = _
          rw [lineP_pre hp hl hq he]
          rfl
        · have e : own ⟨2, s, 0, ([] : List R).length⟩ ++ encL [] = 45 :: (s ++ crlf) := by simp [own, encL]
          rw [e, List.cons_append, List.cons.injEq] at he
          obtain ⟨rfl, he⟩ := he
          rw [hm]
          show (lineP p).map _ = _
          rw [lineP_pre hp hl hq he]
          rfl
      · rw [if_neg h1] at hf
        by_cases h3 : k = 3
        · rw [if_pos h3] at hf
          simp only [Bool.and_eq_true, decide_eq_true_eq] at hf
          obtain ⟨rfl, hl0⟩ := hf
          obtain rfl := List.eq_nil_of_length_eq_zero hl0
          subst h3
          have e : own ⟨3, [], n, ([] : List R).length⟩ ++ encL [] = 58 :: (Dig.dec n ++ crlf) := by simp [own, encL]
          rw [e, List.cons_append, List.cons.injEq] at he
          obtain ⟨rfl, he⟩ := he
          rw [hm]
          show (devP _ _ p).map _ = _
          rw [devP_pre hn0 hn1 hn0 hn1 (by omega) (by omega) hq he]
          rfl
        · rw [if_neg h3] at hf
          by_cases h4 : k = 4
          · rw [if_pos h4] at hf
            simp only [Bool.and_eq_true, decide_eq_true_eq] at hf
            obtain ⟨⟨hl, rfl⟩, hl0⟩ := hf
            obtain rfl := List.eq_nil_of_length_eq_zero hl0
            subst h4
            have e : own ⟨4, s, 0, ([] : List R).length⟩ ++ encL [] = 36 :: (Dig.dec (s.length : Int) ++ crlf ++ (s ++ crlf)) := by simp [own, encL]
            rw [e, List.cons_append, List.cons.injEq] at he
            obtain ⟨rfl, he⟩ := he
            rw [hm]
            exact bulk_pre hl hq he
          · rw [if_neg h4] at hf
            by_cases h5 : k = 5
            · rw [if_pos h5] at hf
              simp only [Bool.and_eq_true, decide_eq_true_eq] at hf
              obtain ⟨⟨rfl, rfl⟩, hl0⟩ := hf
              obtain rfl := List.eq_nil_of_length_eq_zero hl0
              subst h5
              have e : own ⟨5, [], 0, ([] : List R).length⟩ ++ encL [] = 36 :: (Dig.dec (-1) ++ crlf) := by simp [own, encL]
              rw [e, List.cons_append, List.cons.injEq] at he
              obtain ⟨rfl, he⟩ := he
              rw [hm]
              show bulkD p = _
              unfold bulkD
              rw [devP_pre (by omega) (by omega) (by omega) (by omega) (by omega) (by omega) hq he]
              rfl
            · rw [if_neg h5] at hf
              by_cases h6 : k = 6
              · rw [if_pos h6] at hf
                simp only [Bool.and_eq_true, decide_eq_true_eq] at hf
                obtain ⟨⟨rfl, rfl⟩, hl⟩ := hf
                subst h6
                have hlt : lev < 8 := by
                  simp only [decide_true, Bool.true_and, Bool.not_eq_true', decide_eq_false_iff_not] at hd
                  omega
                obtain ⟨d, hde⟩ : ∃ d, 8 - lev = d + 1 := ⟨8 - lev - 1, by omega⟩
                have hd2 : d = 8 - (lev + 1) := by omega
                have e : own ⟨6, [], 0, l.length⟩ ++ encL l = 42 :: (Dig.dec (l.length : Int) ++ crlf ++ encL l) := by simp [own]
                rw [e, List.cons_append, List.cons.injEq] at he
                obtain ⟨rfl, he⟩ := he
                rw [hde]
                show arrD (replyD d) p = _
                unfold arrD
                rcases pre_split he hq with ⟨q', hq', h'⟩ | ⟨p', hp', h'⟩
                · rw [devP_pre (by omega) (by omega) (by omega) (by omega) (by omega) (by omega) hq' h']
                  rfl
                · rw [hp', devP_ok (by omega) (by omega) (by omega) (by omega)]
                  show (manyP (replyD d) (l.length : Int).toNat p').map _ = _
                  rw [Int.toNat_natCast, manyP_pre l (fun r hr => by
                    rw [hd2]
                    exact ⟨reply_preL l (lev + 1) (fun p hp => h p (by rw [heads_eq]; simp [R.l, hp])) (by omega) r hr, fun t => reply_encL l (lev + 1) (fun p hp => h p (by rw [heads_eq]; simp [R.l, hp])) (by omega) r hr t⟩) p' q hq h']
                  rfl
              · rw [if_neg h6] at hf
                cases hf
theorem reply_preL : ∀ (l : List R) (lev : Nat), (∀ p ∈ headsL lev l, okB p = true ∧ NumOk p.1) → lev ≤ 8 → ∀ r ∈ l, Asks (replyD (8 - lev)) r
  | [], _, _, _, r, hr => by cases hr
  | x :: l, lev, h, hlev, r, hr => by
    rcases List.mem_cons.1 hr with hx | hr
    · rw [hx]
      exact reply_pre x lev (fun p hp => h p (by rw [headsL]; simp [hp])) hlev
    · exact reply_preL l lev (fun p hp => h p (by rw [headsL]; simp [hp])) hlev r hr
end

/-- GET OF A BEGINNING. -/
theorem get_pre {r : R} (h : mayB r = true) (hn : ∀ p ∈ heads 0 r, NumOk p.1) {p q : List UInt8} (hq : q ≠ []) (he : p ++ q = enc r) : replyD 8 p = .err 6 := by
  unfold mayB at h
  rw [List.all_eq_true] at h
  exact reply_pre r 0 (fun p hp => ⟨h p hp, hn p hp⟩) (by decide) p q hq he
end Rp
end Go.Proofs.YtbkhnnjjpelfcaaGreatDoor
namespace Go.Proofs.YtbkhnnjjpelfcaaGreatDoor
namespace Rp

theorem lead_app' {L : List UInt8} {x : UInt8} {t : List UInt8} (hL : ∀ c ∈ L, numC.contains c = true) (hx : numC.contains x = false) : lead (L ++ x :: t) = L.take 20 := by
  by_cases h : L.length ≤ 20
  · rw [lead_app hL h hx, List.take_of_length_le h]
  · unfold lead
    rw [List.take_append_of_le_length (by omega)]
    exact takeWhile_self _ (fun c hc => hL c (List.mem_of_mem_take hc))
theorem devP_bad' {lo hi : Int} {L : List UInt8} {x : UInt8} {t : List UInt8} (hL : ∀ c ∈ L, numC.contains c = true) (hx : numC.contains x = false) (h : ∀ v, Dig.dec v = L.take 20 → ¬ (lo ≤ v ∧ v ≤ hi)) :
    devP lo hi (L ++ x :: t) = .err 5 := by
  unfold devP
  rw [lead_app' hL hx, if_neg (fun h => by
    have := h.2
    simp at this
    omega)]
  cases ha : Lib.atoiAll (L.take 20) with
  | ok v =>
    simp only
    rw [if_neg (fun hh => h v hh.1 hh.2)]
  | «syntax» => rfl
  | range => rfl

theorem digs_head0 (u : Nat) (h : (Dig.digs u).getD 0 0 = 48) : u = 0 := by
  induction u using Nat.strongRecOn with
  | _ u ih =>
    by_cases hu : u < 10
    · rw [Dig.digs_small hu] at h
      have e := Tx.ofNat_digit hu
      have h2 : (UInt8.ofNat (48 + u)) = 48 := by simpa using h
      rw [h2] at e
      have : (48 : UInt8).toNat = 48 := rfl
      omega
    · rw [Dig.digs_step hu] at h
      have hne := Tx.digs_ne (u / 10)
      have h2 : (Dig.digs (u / 10)).getD 0 0 = 48 := by
        cases hd : Dig.digs (u / 10) with
        | nil => exact absurd hd hne
        | cons c r => rw [hd] at h; simpa using h
      have := ih (u / 10) (by omega) h2
      omega
/-- a decimal that begins with a minus is below nought. -/
theorem dec_minus {v : Int} {r : List UInt8} (h : Dig.dec v = 45 :: r) : v < 0 ∧ Dig.digs (-v).toNat = r := by
  unfold Dig.dec at h
  split at h
  · rename_i hn
    simp only [List.cons.injEq, true_and] at h
    exact ⟨hn, h⟩
  · obtain ⟨c, q, hc, c0, c1⟩ := digs_cons v.toNat
    rw [hc] at h
    simp only [List.cons.injEq] at h
    rw [h.1] at c0
    exact absurd c0 (by decide)
theorem dec_plus {v : Int} {c : UInt8} {r : List UInt8} (h : Dig.dec v = c :: r) (hc : c ≠ 45) : 0 ≤ v ∧ Dig.digs v.toNat = c :: r := by
  unfold Dig.dec at h
  split at h
  · simp only [List.cons.injEq] at h
    exact absurd h.1.symm hc
  · exact ⟨by omega, h⟩
theorem digs_inj {a b : Nat} (h : Dig.digs a = Dig.digs b) : a = b := by
  have h1 := (Tx.digs_val a).1
  rw [h, (Tx.digs_val b).1] at h1
  exact h1.symm

def reply5 (bs : List UInt8) : Prop := replyD 8 bs = .err 5
theorem int_bad {bs : List UInt8} (h : devP (-9223372036854775808) 9223372036854775807 bs = .err 5) : reply5 (58 :: bs) := by
  show (devP _ _ bs).map _ = _
  rw [h]
  rfl
theorem numC_all {L : List UInt8} (h : L.all (fun c => numC.contains c) = true) : ∀ c ∈ L, numC.contains c = true := List.all_eq_true.1 h
theorem numC_append {a : List UInt8} {n : Int} (h : a.all (fun c => numC.contains c) = true) : ∀ c ∈ a ++ Dig.dec n, numC.contains c = true := fun c hc => by
  rcases List.mem_append.1 hc with hc | hc
  · exact numC_all h c hc
  · exact dec_numC hc

theorem bad0 (n : Int) : reply5 (58 :: 48 :: (Dig.dec n ++ [13, 10])) := by
  refine int_bad ?_
  have := devP_bad' (lo := -9223372036854775808) (hi := 9223372036854775807) (L := 48 :: Dig.dec n) (x := 13) (t := [10]) (numC_append (a := [48]) (n := n) (by decide)) (by decide) (fun v hv => by
    exfalso
    cases hd : Dig.dec n with
    | nil => exact dec_ne n hd
    | cons c r =>
      rw [hd] at hv
      obtain ⟨h0, h1⟩ := dec_plus (c := 48) (r := (c :: r).take 19) hv (by decide)
      have h2 := digs_head0 _ (by rw [h1]; rfl)
      rw [h2, Dig.digs_small (by decide)] at h1
      simp at h1)
  exact this
theorem bad1 (t : List UInt8) : reply5 (58 :: 43 :: t) :=
  int_bad (devP_bad' (L := []) (by simp) (by decide) (fun v hv => absurd hv (dec_ne v)))
theorem bad2 (n : Int) (h0 : -9223372036854775808 ≤ n) (h1 : n ≤ 9223372036854775807) : reply5 (58 :: (Dig.dec n ++ [32, 13, 10])) := by
  refine int_bad ?_
  rw [devP_dec h0 h1 h0 h1 (x := 32) (by decide), textP_bad _ _ _ (by decide)]
  rfl
theorem bad3 : reply5 [58, 13, 10] :=
  int_bad (devP_bad' (L := []) (x := 13) (by simp) (by decide) (fun v hv => absurd hv (dec_ne v)))
theorem bad4 : reply5 [58, 45, 13, 10] :=
  int_bad (devP_bad' (L := [45]) (x := 13) (numC_all (by decide)) (by decide) (fun v hv => absurd hv (dec_ne_minus v)))
theorem bad5 : reply5 [58, 45, 45, 49, 13, 10] :=
  int_bad (devP_bad' (L := [45, 45, 49]) (x := 13) (numC_all (by decide)) (by decide) (fun v hv => by
    exfalso
    obtain ⟨_, h⟩ := dec_minus (r := [45, 49]) hv
    obtain ⟨c, q, hc, c0, c1⟩ := digs_cons (-v).toNat
    rw [hc] at h
    simp only [List.cons.injEq] at h
    rw [h.1] at c0
    exact absurd c0 (by decide)))
theorem bad6 : reply5 [58, 45, 48, 13, 10] :=
  int_bad (devP_bad' (L := [45, 48]) (x := 13) (numC_all (by decide)) (by decide) (fun v hv => by
    exfalso
    obtain ⟨hn, h⟩ := dec_minus (r := [48]) hv
    have := digs_head0 _ (by rw [h]; rfl)
    omega))
theorem bad7 : reply5 [58, 57, 50, 50, 51, 51, 55, 50, 48, 51, 54, 56, 53, 52, 55, 55, 53, 56, 48, 56, 13, 10] :=
  int_bad (devP_bad' (L := [57, 50, 50, 51, 51, 55, 50, 48, 51, 54, 56, 53, 52, 55, 55, 53, 56, 48, 56]) (x := 13) (numC_all (by decide)) (by decide) (fun v hv => by
    obtain ⟨h0, h1⟩ := dec_plus (c := 57) (r := [50, 50, 51, 51, 55, 50, 48, 51, 54, 56, 53, 52, 55, 55, 53, 56, 48, 56]) hv (by decide)
    have h2 := (Tx.digs_val v.toNat).1
    rw [h1] at h2
    have h3 : Tx.valD [57, 50, 50, 51, 51, 55, 50, 48, 51, 54, 56, 53, 52, 55, 55, 53, 56, 48, 56] = 9223372036854775808 := by decide
    rw [h3] at h2
    omega))
theorem bad8 : reply5 [58, 45, 57, 50, 50, 51, 51, 55, 50, 48, 51, 54, 56, 53, 52, 55, 55, 53, 56, 48, 57, 13, 10] :=
  int_bad (devP_bad' (L := [45, 57, 50, 50, 51, 51, 55, 50, 48, 51, 54, 56, 53, 52, 55, 55, 53, 56, 48, 57]) (x := 13) (numC_all (by decide)) (by decide) (fun v hv => by
    obtain ⟨h0, h1⟩ := dec_minus (r := [57, 50, 50, 51, 51, 55, 50, 48, 51, 54, 56, 53, 52, 55, 55, 53, 56, 48, 57]) hv
    have h2 := (Tx.digs_val (-v).toNat).1
    rw [h1] at h2
    have h3 : Tx.valD [57, 50, 50, 51, 51, 55, 50, 48, 51, 54, 56, 53, 52, 55, 55, 53, 56, 48, 57] = 9223372036854775809 := by decide
    rw [h3] at h2
    omega))
theorem bad9 (n : Int) (h0 : -9223372036854775808 ≤ n) (h1 : n ≤ 9223372036854775807) : reply5 (58 :: (Dig.dec n ++ [10])) := by
  refine int_bad ?_
  rw [devP_dec h0 h1 h0 h1 (x := 10) (by decide), textP_bad _ _ _ (by decide)]
  rfl
theorem bad10 (m : Int) (h0 : 2 ≤ m) (h1 : m ≤ 9223372036854775807) : reply5 (36 :: 45 :: (Dig.dec m ++ [13, 10])) := by
  have hd : devP (-1) 1048576 ((45 :: Dig.dec m) ++ 13 :: [10]) = .err 5 := devP_bad' (numC_append (a := [45]) (n := m) (by decide)) (by decide) (fun v hv => by
    have hl : (45 :: Dig.dec m).length ≤ 20 := by
      have : (Dig.dec m).length ≤ 19 := by
        unfold Dig.dec
        rw [if_neg (by omega)]
        exact Dig.digs_len20 (by omega)
      simp only [List.length_cons]; omega
    rw [List.take_of_length_le hl] at hv
    obtain ⟨hn, h2⟩ := dec_minus hv
    have e : Dig.dec m = Dig.digs m.toNat := by unfold Dig.dec; rw [if_neg (by omega)]
    rw [e] at h2
    have := digs_inj h2
    omega)
  show bulkD ((45 :: Dig.dec m) ++ 13 :: [10]) = _
  unfold bulkD
  rw [hd]
  rfl
theorem bad11 : reply5 [42, 45, 49, 13, 10] := by
  have hd : devP 0 65536 ([45, 49] ++ 13 :: [10]) = .err 5 := devP_bad' (numC_all (by decide)) (by decide) (fun v hv => by
    obtain ⟨hn, _⟩ := dec_minus (r := [49]) hv
    omega)
  show arrD (replyD 7) ([45, 49] ++ 13 :: [10]) = _
  unfold arrD
  rw [hd]
  rfl
end Rp
end Go.Proofs.YtbkhnnjjpelfcaaGreatDoor
namespace Go.Proofs.YtbkhnnjjpelfcaaGreatDoor
namespace Rp

/-- a number's digits, one by one. -/
def numL (neg : Bool) (most : Nat) : Bool → Nat → List UInt8 → Out Int
  | _, _, [] => .err 6
  | fst, u, c :: r =>
    if 48 ≤ c.toNat ∧ c.toNat ≤ 57 then
      if (fst = false ∧ u = 0) ∨ (neg = true ∧ fst = true ∧ c.toNat = 48) ∨ most < 10 * u + (c.toNat - 48) then .err 5
      else numL neg most false (10 * u + (c.toNat - 48)) r
    else if fst = true then .err 5 else endP (if neg = true then -(u : Int) else (u : Int)) (c :: r)
def refN (low : Bool) (most : Nat) (bs : List UInt8) : Out Int :=
  if bs.head? = some 45 then (if low = true then numL true (most + 1) true 0 (bs.drop 1) else .err 5) else numL false most true 0 bs

theorem dev_rej {lo hi : Int} {p : List UInt8} {c : UInt8} {t : List UInt8} (hp : ∀ x ∈ p ++ [c], numC.contains x = true) (hc : c ≠ 13) (hl : p.length ≤ 20) (h1 : p ++ [c] ≠ [45])
    (h : ∀ v, lo ≤ v → v ≤ hi → ∀ q, p ++ [c] ++ q ≠ Dig.dec v) : devP lo hi (p ++ c :: t) = .err 5 := by
  by_cases h20 : p.length = 20
  · have hld : lead (p ++ c :: t) = p := by
      unfold lead
      rw [List.take_append_of_le_length (by omega), List.take_of_length_le (by omega)]
      exact takeWhile_self p fun x hx => hp x (by simp [hx])
    unfold devP
    rw [hld, if_neg (fun h => by have := h.2; simp at this)]
    cases Lib.atoiAll p with
    | ok v =>
      simp only
      split
      · rw [textP_bad p t c hc]; rfl
      · rfl
    | «syntax» => rfl
    | range => rfl
  · obtain ⟨s, hld⟩ : ∃ s, lead (p ++ c :: t) = p ++ [c] ++ s := by
      unfold lead
      obtain ⟨m, hm⟩ : ∃ m, 20 = p.length + (m + 1) := ⟨20 - p.length - 1, by omega⟩
      rw [hm, List.take_append, List.take_of_length_le (by omega), show p.length + (m + 1) - p.length = m + 1 by omega, List.take_succ_cons]
      refine ⟨(t.take m).takeWhile fun c => numC.contains c, ?_⟩
      rw [show p ++ c :: t.take m = (p ++ [c]) ++ t.take m by simp]
      exact List.takeWhile_append_of_pos hp
    unfold devP
    rw [hld, if_neg (fun hh => by
      rcases hh.1 with h2 | h2
      · simp at h2
      · have h3 := congrArg List.length h2.1
        simp at h3
        have hp0 : p = [] := List.eq_nil_of_length_eq_zero (by omega)
        have hs0 : s = [] := List.eq_nil_of_length_eq_zero (by omega)
        rw [hs0, List.append_nil] at h2
        exact h1 h2.1)]
    cases Lib.atoiAll (p ++ [c] ++ s) with
    | ok v =>
      simp only
      rw [if_neg (fun hh => h v hh.2.1 hh.2.2 s hh.1.symm)]
    | «syntax» => rfl
    | range => rfl

theorem digit_byte {c : UInt8} (h : 48 ≤ c.toNat ∧ c.toNat ≤ 57) : UInt8.ofNat (48 + (c.toNat - 48)) = c := by
  rw [show 48 + (c.toNat - 48) = c.toNat by omega]
  simp
theorem digs_snoc {u : Nat} (hu : 1 ≤ u) {c : UInt8} (h : 48 ≤ c.toNat ∧ c.toNat ≤ 57) : Dig.digs (10 * u + (c.toNat - 48)) = Dig.digs u ++ [c] := by
  rw [Dig.digs_step (by omega), show (10 * u + (c.toNat - 48)) / 10 = u by omega, show (10 * u + (c.toNat - 48)) % 10 = c.toNat - 48 by omega, digit_byte h]
theorem digs_one {c : UInt8} (h : 48 ≤ c.toNat ∧ c.toNat ≤ 57) : Dig.digs (c.toNat - 48) = [c] := by
  rw [Dig.digs_small (by omega), digit_byte h]
def sg (neg : Bool) (u : Nat) : Int := if neg = true then -(u : Int) else (u : Int)
def sP (neg : Bool) : List UInt8 := if neg = true then [45] else []
theorem dec_sg {neg : Bool} {u : Nat} (h : neg = true → 1 ≤ u) : Dig.dec (sg neg u) = sP neg ++ Dig.digs u := by
  cases neg with
  | true =>
    have := h rfl
    unfold Dig.dec sg sP
    rw [if_pos rfl, if_pos (by omega), if_pos rfl, Int.neg_neg, Int.toNat_natCast]
    rfl
  | false =>
    show Dig.dec (u : Int) = Dig.digs u
    unfold Dig.dec
    rw [if_neg (by omega), Int.toNat_natCast]
theorem digit_numC {c : UInt8} (h : 48 ≤ c.toNat ∧ c.toNat ≤ 57) : numC.contains c = true := numC_digit (by unfold Tx.isD; simp [h.1, h.2])
theorem numC_cases {c : UInt8} (h : numC.contains c = true) : c = 45 ∨ (48 ≤ c.toNat ∧ c.toNat ≤ 57) := by
  simp only [numC, List.contains_eq_mem, List.mem_cons, List.not_mem_nil, or_false, decide_eq_true_eq] at h
  rcases h with rfl | rfl | rfl | rfl | rfl | rfl | rfl | rfl | rfl | rfl | rfl <;> first | exact .inl rfl | exact .inr ⟨by decide, by decide⟩
theorem not_in_digs {u : Nat} : (45 : UInt8) ∉ Dig.digs u := fun h => absurd (digs_isD h) (by decide)
theorem dec_no_minus {v : Int} {x : UInt8} {xs : List UInt8} (h : Dig.dec v = x :: xs) : (45 : UInt8) ∉ xs := by
  by_cases hx : x = 45
  · subst hx
    have := (dec_minus h).2
    rw [← this]
    exact not_in_digs
  · have h2 := (dec_plus h hx).2
    intro hm
    have : (45 : UInt8) ∈ Dig.digs v.toNat := by rw [h2]; simp [hm]
    exact not_in_digs this
theorem dec_cons (v : Int) : ∃ x xs, Dig.dec v = x :: xs := by
  cases h : Dig.dec v with
  | nil => exact (dec_ne v h).elim
  | cons x xs => exact ⟨x, xs, rfl⟩
theorem textP_end (s r : List UInt8) : textP s.length (s ++ r) = endP s r := by
  unfold textP
  rw [if_neg (by simp), List.take_left, List.drop_left]
theorem endP_map {α β : Type} (a : α) (b : β) (r : List UInt8) : (endP a r).map (fun _ => b) = endP b r := by
  unfold endP
  cases r with
  | nil => rfl
  | cons x r =>
    simp only
    split
    · cases r with
      | nil => rfl
      | cons y t =>
        simp only
        split <;> rfl
    · rfl

theorem numL_dev {neg : Bool} {most : Nat} {lo hi : Int} (h0 : lo ≤ 0) (h1 : 0 ≤ hi) (hlo : -9223372036854775808 ≤ lo) (hhi : hi ≤ 9223372036854775807) (hn : neg = true → lo = -(most : Int) ∧ 1 ≤ most) (hp : neg = false → hi = (most : Int)) :
    ∀ (r : List UInt8) (fst : Bool) (u : Nat) (p : List UInt8), (fst = true → u = 0 ∧ p = sP neg ∧ (neg = false → r.head? ≠ some 45)) → (fst = false → p = Dig.dec (sg neg u) ∧ (neg = true → 1 ≤ u) ∧ u ≤ most) → numL neg most fst u r = devP lo hi (p ++ r)
  | [], fst, u, p, hf, hd => by
    rw [numL, List.append_nil]
    cases fst with
    | true =>
      obtain ⟨-, rfl, -⟩ := hf rfl
      cases neg with
      | true =>
        have hl : lead (sP true) = [45] := by decide
        unfold devP
        rw [hl, if_pos ⟨.inr ⟨rfl, by have := hn rfl; omega⟩, rfl⟩]
      | false =>
        have hl : lead (sP false) = [] := by decide
        unfold devP
        rw [hl, if_pos ⟨.inl rfl, rfl⟩]
    | false =>
      obtain ⟨rfl, hu, hm⟩ := hd rfl
      have hr : lo ≤ sg neg u ∧ sg neg u ≤ hi := by
        unfold sg
        cases neg with
        | true => have := hn rfl; simp only [if_pos]; omega
        | false => have := hp rfl; rw [if_neg (by decide)]; omega
      exact (devP_pre (q := crlf) (v := sg neg u) (by omega) (by omega) hr.1 hr.2 h0 h1 (by decide) rfl).symm
  | c :: r, fst, u, p, hf, hd => by
    have hrange : fst = false → lo ≤ sg neg u ∧ sg neg u ≤ hi := by
      intro h
      obtain ⟨-, -, hm⟩ := hd h
      unfold sg
      cases neg with
      | true => have := hn rfl; simp only [if_pos]; omega
      | false => have := hp rfl; rw [if_neg (by decide)]; omega
    have hpl : p.length ≤ 20 ∧ ∀ x ∈ p, numC.contains x = true := by
      cases fst with
      | true =>
        obtain ⟨-, rfl, -⟩ := hf rfl
        cases neg <;> exact ⟨by decide, by decide⟩
      | false =>
        obtain ⟨rfl, -, -⟩ := hd rfl
        have := hrange rfl
        exact ⟨dec20 (by omega) (by omega), fun x hx => dec_numC hx⟩
    rw [numL]
    by_cases hdg : 48 ≤ c.toNat ∧ c.toNat ≤ 57
    · rw [if_pos hdg]
      have hc13 : c ≠ 13 := by rintro rfl; exact absurd hdg.1 (by decide)
      have hc45 : c ≠ 45 := by rintro rfl; exact absurd hdg.1 (by decide)
      have hall : ∀ x ∈ p ++ [c], numC.contains x = true := by
        intro x hx
        rcases List.mem_append.1 hx with hx | hx
        · exact hpl.2 x hx
        · rw [List.mem_singleton.1 hx]; exact digit_numC hdg
      have hne45 : p ++ [c] ≠ [45] := by
        intro h
        cases p with
        | nil => simp at h; exact hc45 h
        | cons a p => simp at h
      -- the prefix as a decimal
      have hL : ¬ (fst = false ∧ u = 0) → p ++ [c] = sP neg ++ Dig.digs (10 * u + (c.toNat - 48)) := by
        intro h
        cases fst with
        | true =>
          obtain ⟨rfl, rfl, -⟩ := hf rfl
          rw [Nat.mul_zero, Nat.zero_add, digs_one hdg]
        | false =>
          obtain ⟨hpe, hu, -⟩ := hd rfl
          rw [hpe, dec_sg hu, digs_snoc (by have : u ≠ 0 := fun e => h ⟨rfl, e⟩
                                            omega) hdg, List.append_assoc]
      by_cases hrej : (fst = false ∧ u = 0) ∨ (neg = true ∧ fst = true ∧ c.toNat = 48) ∨ most < 10 * u + (c.toNat - 48)
      · rw [if_pos hrej]
        refine (dev_rej hall hc13 hpl.1 hne45 fun v hv0 hv1 q hq => ?_).symm
        obtain ⟨v', hv', ha, hb⟩ := dec_pre (p := p ++ [c]) (q := q) (by simp) hne45 hq
        have hr' : lo ≤ v' ∧ v' ≤ hi := by
          by_cases h : 0 ≤ v
          · have := ha h; omega
          · have := hb (by omega); omega
        by_cases hi' : fst = false ∧ u = 0
        · obtain ⟨h2, rfl⟩ := hi'
          obtain ⟨hpe, hu, -⟩ := hd h2
          cases neg with
          | true => have := hu rfl; omega
          | false =>
            have e : p = [48] := by rw [hpe, dec_sg (fun h => by cases h), Dig.digs_small (by decide)]; rfl
            rw [e] at hv'
            have h3 := (dec_plus hv'.symm (by decide)).2
            have h4 := digs_head0 v'.toNat (by rw [h3]; rfl)
            rw [h4] at h3
            have := congrArg List.length h3
            rw [Dig.digs_small (by decide)] at this
            simp at this
        · have hLL := hL hi'
          rw [hv'] at hLL
          cases neg with
          | true =>
            have hLL' : Dig.dec v' = 45 :: Dig.digs (10 * u + (c.toNat - 48)) := hLL
            obtain ⟨hneg, h3⟩ := dec_minus hLL'
            have h4 := digs_inj h3
            have hlo' := (hn rfl).1
            rcases hrej with h | h | h
            · exact hi' h
            · obtain ⟨-, h5, h6⟩ := h
              have := (hf h5).1
              omega
            · omega
          | false =>
            have hLL' : Dig.dec v' = Dig.digs (10 * u + (c.toNat - 48)) := hLL
            obtain ⟨x, xs, hx, hx1, -⟩ := digs_cons (10 * u + (c.toNat - 48))
            have hx45 : x ≠ 45 := by rintro rfl; exact absurd hx1 (by decide)
            rw [hx] at hLL'
            obtain ⟨hpos, h3⟩ := dec_plus hLL' hx45
            rw [← hx] at h3
            have h4 := digs_inj h3
            have hhi' := hp rfl
            rcases hrej with h | h | h
            · exact hi' h
            · cases h.1
            · omega
      · rw [if_neg hrej]
        have h2 : ¬ (fst = false ∧ u = 0) := fun h => hrej (.inl h)
        have h3 : neg = true → 1 ≤ 10 * u + (c.toNat - 48) := by
          intro hneg
          cases hfs : fst with
          | true =>
            have : c.toNat ≠ 48 := fun e => hrej (.inr (.inl ⟨hneg, hfs, e⟩))
            omega
          | false =>
            have : u ≠ 0 := fun e => h2 ⟨hfs, e⟩
            omega
        have h4 : 10 * u + (c.toNat - 48) ≤ most := by
          have : ¬ most < 10 * u + (c.toNat - 48) := fun h => hrej (.inr (.inr h))
          omega
        rw [numL_dev h0 h1 hlo hhi hn hp r false (10 * u + (c.toNat - 48)) (p ++ [c]) (fun h => by cases h) (fun _ => ⟨by rw [dec_sg h3]; exact hL h2, h3, h4⟩)]
        rw [List.append_assoc]
        rfl
    · rw [if_neg hdg]
      cases fst with
      | true =>
        rw [if_pos rfl]
        obtain ⟨-, rfl, hhd⟩ := hf rfl
        by_cases hc : numC.contains c = true
        · rcases numC_cases hc with rfl | h
          · cases neg with
            | false => exact (hhd rfl rfl).elim
            | true =>
              refine (dev_rej (p := [45]) (c := 45) (by decide) (by decide) (by decide) (by decide) fun v _ _ q hq => ?_).symm
              have := (dec_minus hq.symm).2
              exact not_in_digs (u := (-v).toNat) (by rw [this]; simp)
          · exact (hdg h).elim
        · refine (devP_bad (fun x hx => hpl.2 x hx) hpl.1 (by simpa using hc) fun v hv _ => ?_).symm
          cases neg with
          | true => exact dec_ne_minus v hv
          | false => exact dec_ne v hv
      | false =>
        rw [if_neg (by decide)]
        obtain ⟨rfl, hu, hm⟩ := hd rfl
        have hr := hrange rfl
        by_cases hc : numC.contains c = true
        · rcases numC_cases hc with rfl | h
          · obtain ⟨x, xs, hx⟩ := dec_cons (sg neg u)
            have e5 : endP (if neg = true then -(u : Int) else (u : Int)) (45 :: r) = .err 5 := by
              simp [endP]
            rw [e5]
            refine (dev_rej (fun y hy => ?_) (by decide) hpl.1 (by rw [hx]; simp) fun v _ _ q hq => ?_).symm
            · rcases List.mem_append.1 hy with hy | hy
              · exact hpl.2 y hy
              · rw [List.mem_singleton.1 hy]; exact hc
            · rw [hx] at hq
              exact dec_no_minus (v := v) (x := x) (xs := xs ++ [45] ++ q) (by rw [← hq]; simp) (by simp)
          · exact (hdg h).elim
        · rw [devP_dec (by omega) (by omega) hr.1 hr.2 (by simpa using hc), textP_end, endP_map]
          rfl

theorem devP_minus0 {hi : Int} (r : List UInt8) : devP 0 hi (45 :: r) = .err 5 := by
  have hl : ∃ s, lead (45 :: r) = 45 :: s := by
    unfold lead
    rw [show (20 : Nat) = 19 + 1 from rfl, List.take_succ_cons, List.takeWhile_cons, if_pos (by decide)]
    exact ⟨_, rfl⟩
  obtain ⟨s, hl⟩ := hl
  unfold devP
  rw [hl, if_neg (fun hh => by
    rcases hh.1 with h | h
    · cases h
    · exact absurd h.2 (by decide))]
  cases Lib.atoiAll (45 :: s) with
  | ok v =>
    simp only
    rw [if_neg (fun hh => by have := (dec_minus hh.1).1; omega)]
  | «syntax» => rfl
  | range => rfl

theorem refN_up {most : Nat} (hm : most ≤ 9223372036854775807) (bs : List UInt8) : refN false most bs = devP 0 (most : Int) bs := by
  unfold refN
  by_cases h : bs.head? = some 45
  · rw [if_pos h, if_neg (by decide)]
    cases bs with
    | nil => cases h
    | cons x r =>
      simp at h
      subst h
      exact (devP_minus0 r).symm
  · rw [if_neg h]
    exact numL_dev (neg := false) (Int.le_refl _) (by omega) (by decide) (by omega) (fun h => by cases h) (fun _ => rfl) bs true 0 [] (fun _ => ⟨rfl, rfl, fun _ => h⟩) (fun h => by cases h)
theorem refN_all (bs : List UInt8) : refN true 9223372036854775807 bs = devP (-9223372036854775808) 9223372036854775807 bs := by
  unfold refN
  by_cases h : bs.head? = some 45
  · rw [if_pos h, if_pos rfl]
    cases bs with
    | nil => cases h
    | cons x r =>
      simp at h
      subst h
      exact numL_dev (neg := true) (by decide) (by decide) (by decide) (by decide) (fun _ => ⟨by decide, by decide⟩) (fun h => by cases h) r true 0 [45] (fun _ => ⟨rfl, rfl, fun h => by cases h⟩) (fun h => by cases h)
  · rw [if_neg h]
    exact numL_dev (neg := false) (by decide) (by decide) (by decide) (by decide) (fun h => by cases h) (fun _ => by decide) bs true 0 [] (fun _ => ⟨rfl, rfl, fun _ => h⟩) (fun h => by cases h)

/-- an RBulk, or the RNil. -/
def bulkR (bs : List UInt8) : Out R :=
  if bs.head? = some 45 then (match bs.drop 1 with
    | [] => .err 6
    | c :: r => if c = 49 then endP (.mk 5 [] 0 []) r else .err 5)
  else (refN false 1048576 bs).bind fun n r => if (r.length : Int) < n then .err 6 else endP (.mk 4 (r.take n.toNat) 0 []) (r.drop n.toNat)

theorem endP_bind {α β : Type} (a : α) (f : α → List UInt8 → Out β) (b : β) (hf : ∀ t, f a t = .ok b t) (r : List UInt8) : (endP a r).bind f = endP b r := by
  unfold endP
  cases r with
  | nil => rfl
  | cons x r =>
    simp only
    split
    · cases r with
      | nil => rfl
      | cons y t =>
        simp only
        split
        · exact hf t
        · rfl
    · rfl
theorem bulkR_dev (bs : List UInt8) : bulkR bs = bulkD bs := by
  unfold bulkR bulkD
  by_cases h : bs.head? = some 45
  · rw [if_pos h]
    cases bs with
    | nil => cases h
    | cons x r =>
      simp at h
      subst h
      have e := numL_dev (neg := true) (most := 1) (lo := -1) (hi := 1048576) (by decide) (by decide) (by decide) (by decide) (fun _ => ⟨by decide, by decide⟩) (fun h => by cases h) r true 0 [45] (fun _ => ⟨rfl, rfl, fun h => by cases h⟩) (fun h => by cases h)
      rw [List.singleton_append] at e
      rw [← e, List.drop_succ_cons, List.drop_zero]
      cases r with
      | nil => rfl
      | cons c r =>
        simp only
        rw [numL]
        by_cases h1 : c = 49
        · subst h1
          rw [if_pos rfl, if_pos (by decide), if_neg (by decide)]
          have h2 : numL true 1 false (10 * 0 + ((49 : UInt8).toNat - 48)) r = endP (-1 : Int) r := by
            cases r with
            | nil => rfl
            | cons c r =>
              rw [numL]
              by_cases hd : 48 ≤ c.toNat ∧ c.toNat ≤ 57
              · rw [if_pos hd, if_pos (.inr (.inr (by have : (49 : UInt8).toNat = 49 := rfl
                                                      omega)))]
                have hc13 : c ≠ 13 := by rintro rfl; exact absurd hd.1 (by decide)
                show _ = (if c = 13 then _ else _)
                rw [if_neg hc13]
              · rw [if_neg hd, if_neg (by decide)]
                rfl
          rw [h2, endP_bind (-1 : Int) _ (.mk 5 [] 0 []) (fun t => by rw [if_pos (by decide)])]
        · rw [if_neg h1]
          by_cases hd : 48 ≤ c.toNat ∧ c.toNat ≤ 57
          · rw [if_pos hd, if_pos (.inr (by
              by_cases h0 : c.toNat = 48
              · exact .inl ⟨rfl, rfl, h0⟩
              · right
                have : c.toNat ≠ 49 := fun e => h1 (UInt8.toNat_inj.1 e)
                omega))]
            rfl
          · rw [if_neg hd, if_pos rfl]
            rfl
  · rw [if_neg h, refN_up (by decide)]
    -- the bounds differ below nought alone
    have e : devP 0 ((1048576 : Nat) : Int) bs = devP (-1) 1048576 bs := by
      have a1 := numL_dev (neg := false) (most := 1048576) (lo := 0) (hi := 1048576) (by decide) (by decide) (by decide) (by decide) (fun h => by cases h) (fun _ => by decide) bs true 0 [] (fun _ => ⟨rfl, rfl, fun _ => h⟩) (fun h => by cases h)
      have a2 := numL_dev (neg := false) (most := 1048576) (lo := -1) (hi := 1048576) (by decide) (by decide) (by decide) (by decide) (fun h => by cases h) (fun _ => by decide) bs true 0 [] (fun _ => ⟨rfl, rfl, fun _ => h⟩) (fun h => by cases h)
      exact a1.symm.trans a2
    rw [e]
    cases hd : devP (-1) 1048576 bs with
    | err c => rfl
    | ok n r =>
      have hn0 : 0 ≤ n := by
        have := (devP_inv (lo := 0) (hi := ((1048576 : Nat) : Int)) (e.trans hd)).2.1
        exact this
      show (if (r.length : Int) < n then _ else _) = (if n < 0 then _ else _)
      rw [if_neg (show ¬ n < 0 by omega)]
      unfold textP
      by_cases hl : r.length < n.toNat
      · rw [if_pos (by omega), if_pos hl]; rfl
      · rw [if_neg (by omega), if_neg hl]
        generalize r.drop n.toNat = r'
        generalize r.take n.toNat = s
        unfold endP
        cases r' with
        | nil => rfl
        | cons x r' =>
          simp only
          split
          · cases r' with
            | nil => rfl
            | cons y t =>
              simp only
              split <;> rfl
          · rfl

/-- a text up to a line's end, byte by byte. -/
def lineL (pre : List UInt8) : List UInt8 → Out (List UInt8)
  | [] => .err 6
  | c :: r => if c = 13 then endP pre (c :: r) else if c = 10 ∨ 512 ≤ pre.length then .err 5 else lineL (pre ++ [c]) r
theorem lineL_dev : ∀ (r pre : List UInt8), plainB pre = true → pre.length ≤ 512 → lineL pre r = lineP (pre ++ r)
  | [], pre, hp, hl => by
    rw [lineL]
    unfold lineP
    have hr : (pre ++ []).takeWhile (fun b => b != 13 && b != 10) = pre := by
      rw [List.append_nil]
      exact takeWhile_self pre fun c hc => List.all_eq_true.1 hp c hc
    rw [hr]
    simp only
    rw [if_neg (by omega), List.drop_left]
    rfl
  | c :: r, pre, hp, hl => by
    rw [lineL]
    have hpp : ∀ x ∈ pre, (x != 13 && x != 10) = true := fun x hx => List.all_eq_true.1 hp x hx
    by_cases h13 : c = 13
    · rw [if_pos h13]
      unfold lineP
      rw [takeWhile_app pre c r hpp (by rw [h13]; decide)]
      simp only
      rw [if_neg (by omega), List.drop_left]
    · rw [if_neg h13]
      by_cases h10 : c = 10
      · rw [if_pos (.inl h10)]
        unfold lineP
        rw [takeWhile_app pre c r hpp (by rw [h10]; decide)]
        simp only
        rw [if_neg (by omega), List.drop_left]
        show _ = (if c = 13 then _ else _)
        rw [if_neg h13]
      · have hcp : (c != 13 && c != 10) = true := by simp [h13, h10]
        by_cases h512 : 512 ≤ pre.length
        · rw [if_pos (.inr h512)]
          unfold lineP
          have : 512 < ((pre ++ c :: r).takeWhile (fun b => b != 13 && b != 10)).length := by
            rw [show pre ++ c :: r = (pre ++ [c]) ++ r by simp, List.takeWhile_append_of_pos (fun x hx => by
              rcases List.mem_append.1 hx with hx | hx
              · exact hpp x hx
              · rw [List.mem_singleton.1 hx]; exact hcp)]
            simp
            omega
          simp only
          rw [if_pos this]
        · rw [if_neg (by rintro (h | h); exact h10 h; exact h512 h), lineL_dev r (pre ++ [c]) (by
            unfold plainB
            rw [List.all_append, show pre.all _ = true from hp]
            simp [h13, h10]) (by simp; omega)]
          rw [List.append_assoc]
          rfl
end Rp
end Go.Proofs.YtbkhnnjjpelfcaaGreatDoor
