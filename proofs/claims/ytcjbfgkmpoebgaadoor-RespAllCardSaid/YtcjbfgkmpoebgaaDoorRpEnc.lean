/- What the reader tells of a reply's own bytes: the reply. No program in it. -/
import Derived.Test.YtcjbfgkmpoebgaaDoorRpReadA
import Derived.Test.YtcjbfgkmpoebgaaDoorTxPlain
import Derived.Test.YtcjbfgkmpoebgaaDoorRpPut
namespace Go.Proofs.YtcjbfgkmpoebgaaDoor
namespace Rp

/-! numbers -/
theorem parse_fold : ∀ (l : List UInt8) (acc : Nat), (∀ c ∈ l, Tx.isD c = true) → l.foldl (fun u c => 10 * u + (c.toNat - 48)) acc < 18446744073709551616 → Lib.parseUint10 acc l = .ok (l.foldl (fun u c => 10 * u + (c.toNat - 48)) acc)
  | [], acc, _, _ => rfl
  | c :: r, acc, hd, hb => by
    have hc := hd c (by simp)
    unfold Tx.isD at hc
    rw [Bool.and_eq_true, decide_eq_true_eq, decide_eq_true_eq] at hc
    rw [List.foldl_cons] at hb ⊢
    have hle := Tx.fold_le r (10 * acc + (c.toNat - 48))
    have ih := parse_fold r (10 * acc + (c.toNat - 48)) (fun x hx => hd x (by simp [hx])) hb
    unfold Lib.parseUint10
    rw [if_pos hc, if_neg (by omega), if_neg (by omega), show acc * 10 + (c.toNat - 48) = 10 * acc + (c.toNat - 48) by omega]
    exact ih

theorem digs_isD {u : Nat} {c : UInt8} (h : c ∈ Dig.digs u) : Tx.isD c = true := by
  have := (Tx.digs_val u).2
  unfold Tx.digB at this
  rw [List.all_eq_true] at this
  exact this c h

theorem mag_digs {u : Nat} (h : u < 18446744073709551616) : Lib.parseMag (Dig.digs u) = .ok u := by
  have hv := (Tx.digs_val u).1
  unfold Tx.valD at hv
  unfold Lib.parseMag
  rw [if_neg (Tx.digs_ne u), parse_fold (Dig.digs u) 0 (fun c hc => digs_isD hc) (by rw [hv]; exact h), hv]

theorem digs_cons (u : Nat) : ∃ c r, Dig.digs u = c :: r ∧ 48 ≤ c.toNat ∧ c.toNat ≤ 57 := by
  cases hd : Dig.digs u with
  | nil => exact absurd hd (Tx.digs_ne u)
  | cons c r =>
    refine ⟨c, r, rfl, ?_⟩
    have := digs_isD (u := u) (c := c) (by rw [hd]; simp)
    unfold Tx.isD at this
    rw [Bool.and_eq_true, decide_eq_true_eq, decide_eq_true_eq] at this
    exact this

theorem atoi_dec {n : Int} (h0 : -9223372036854775808 ≤ n) (h1 : n ≤ 9223372036854775807) : Lib.atoiAll (Dig.dec n) = .ok n := by
  by_cases hn : n < 0
  · have e : Dig.dec n = 45 :: Dig.digs (-n).toNat := by unfold Dig.dec; rw [if_pos hn]
    rw [e]
    unfold Lib.atoiAll
    have h45 : (45 : UInt8).toNat = 45 := rfl
    simp only [h45]
    rw [if_pos (.inr trivial), mag_digs (by omega)]
    simp only [not_true, false_and, if_false, true_and, if_true]
    rw [if_neg (by omega)]
    congr 1
    omega
  · have e : Dig.dec n = Dig.digs n.toNat := by unfold Dig.dec; rw [if_neg hn]
    rw [e]
    obtain ⟨c, r, hc, c0, c1⟩ := digs_cons n.toNat
    have hm := mag_digs (u := n.toNat) (by omega)
    rw [hc] at hm ⊢
    unfold Lib.atoiAll
    have h45 : ¬ c.toNat = 45 := by omega
    have h43 : ¬ c.toNat = 43 := by omega
    simp only [h45, h43, or_self, if_false, hm, not_false_eq_true, true_and, false_and]
    rw [if_neg (by omega)]
    congr 1
    omega

theorem numC_digit {c : UInt8} (h : Tx.isD c = true) : numC.contains c = true := by
  unfold Tx.isD at h
  rw [Bool.and_eq_true, decide_eq_true_eq, decide_eq_true_eq] at h
  obtain ⟨h1, h2⟩ := h
  have hc : c = UInt8.ofNat c.toNat := by simp
  have hk : c.toNat = 48 ∨ c.toNat = 49 ∨ c.toNat = 50 ∨ c.toNat = 51 ∨ c.toNat = 52 ∨ c.toNat = 53 ∨ c.toNat = 54 ∨ c.toNat = 55 ∨ c.toNat = 56 ∨ c.toNat = 57 := by omega
  rcases hk with hk | hk | hk | hk | hk | hk | hk | hk | hk | hk <;> (rw [hk] at hc; subst hc; decide)
theorem dec_numC {n : Int} {c : UInt8} (h : c ∈ Dig.dec n) : numC.contains c = true := by
  unfold Dig.dec at h
  split at h
  · rcases List.mem_cons.1 h with rfl | h
    · decide
    · exact numC_digit (digs_isD h)
  · exact numC_digit (digs_isD h)
theorem dec_ne (n : Int) : Dig.dec n ≠ [] := by
  unfold Dig.dec
  split
  · simp
  · exact Tx.digs_ne _
theorem dec_ne_minus (n : Int) : Dig.dec n ≠ [45] := by
  unfold Dig.dec
  split
  · intro h
    simp only [List.cons.injEq, true_and] at h
    exact Tx.digs_ne _ h
  · obtain ⟨c, r, hc, c0, c1⟩ := digs_cons n.toNat
    rw [hc]
    intro h
    simp only [List.cons.injEq] at h
    rw [h.1] at c0
    exact absurd c0 (by decide)

theorem takeWhile_app {p : UInt8 → Bool} : ∀ (L : List UInt8) (x : UInt8) (t : List UInt8), (∀ c ∈ L, p c = true) → p x = false → (L ++ x :: t).takeWhile p = L
  | [], x, t, _, hx => by simp [hx]
  | c :: L, x, t, h, hx => by
    rw [List.cons_append, List.takeWhile_cons, if_pos (h c (by simp)), takeWhile_app L x t (fun y hy => h y (by simp [hy])) hx]
theorem takeWhile_self {p : UInt8 → Bool} : ∀ (L : List UInt8), (∀ c ∈ L, p c = true) → L.takeWhile p = L
  | [], _ => rfl
  | c :: L, h => by rw [List.takeWhile_cons, if_pos (h c (by simp)), takeWhile_self L (fun y hy => h y (by simp [hy]))]
theorem lead_app {L : List UInt8} {x : UInt8} {t : List UInt8} (hL : ∀ c ∈ L, numC.contains c = true) (hl : L.length ≤ 20) (hx : numC.contains x = false) : lead (L ++ x :: t) = L := by
  unfold lead
  by_cases h : L.length = 20
  · rw [List.take_append_of_le_length (by omega), List.take_of_length_le (by omega)]
    exact takeWhile_self L hL
  · obtain ⟨m, hm⟩ : ∃ m, 20 = L.length + (m + 1) := ⟨20 - L.length - 1, by omega⟩
    rw [hm, List.take_append, List.take_of_length_le (by omega), show L.length + (m + 1) - L.length = m + 1 by omega, List.take_succ_cons]
    exact takeWhile_app L x _ hL hx

theorem textP_app (s t : List UInt8) : textP s.length (s ++ crlf ++ t) = .ok s t := by
  unfold textP
  rw [if_neg (by simp)]
  have e1 : (s ++ crlf ++ t).take s.length = s := by rw [List.append_assoc, List.take_left]
  have e2 : (s ++ crlf ++ t).drop s.length = crlf ++ t := by rw [List.append_assoc, List.drop_left]
  rw [e1, e2]
  rfl
theorem textP_bad (s t : List UInt8) (x : UInt8) (hx : x ≠ 13) : textP s.length (s ++ x :: t) = .err 5 := by
  unfold textP
  rw [if_neg (by simp)]
  have e2 : (s ++ x :: t).drop s.length = x :: t := by rw [List.drop_left]
  rw [e2]
  show (if x = 13 then _ else _) = _
  rw [if_neg hx]

theorem dec20 {n : Int} (h0 : -9223372036854775808 ≤ n) (h1 : n ≤ 9223372036854775807) : (Dig.dec n).length ≤ 20 := by
  unfold Dig.dec
  split
  · have := Dig.digs_len20 (u := (-n).toNat) (by omega)
    simp only [List.length_cons]; omega
  · have := Dig.digs_len20 (u := n.toNat) (by omega)
    omega
/-- behind a decimal in range: what the text's reader tells. -/
theorem devP_dec {lo hi n : Int} (h0 : -9223372036854775808 ≤ n) (h1 : n ≤ 9223372036854775807) (hlo : lo ≤ n) (hhi : n ≤ hi) {x : UInt8} (hx : numC.contains x = false) (t : List UInt8) :
    devP lo hi (Dig.dec n ++ x :: t) = (textP (Dig.dec n).length (Dig.dec n ++ x :: t)).map fun _ => n := by
  have hl := lead_app (x := x) (t := t) (fun c hc => dec_numC (n := n) hc) (dec20 h0 h1) hx
  unfold devP
  rw [hl, if_neg (fun h => by
    have := h.2
    simp at this), atoi_dec h0 h1]
  show (if Dig.dec n = Dig.dec n ∧ lo ≤ n ∧ n ≤ hi then _ else _) = _
  rw [if_pos ⟨rfl, hlo, hhi⟩]
theorem devP_ok {lo hi n : Int} (h0 : -9223372036854775808 ≤ n) (h1 : n ≤ 9223372036854775807) (hlo : lo ≤ n) (hhi : n ≤ hi) (t : List UInt8) :
    devP lo hi (Dig.dec n ++ crlf ++ t) = .ok n t := by
  have h := devP_dec h0 h1 hlo hhi (x := 13) (by decide) (10 :: t)
  have e : Dig.dec n ++ crlf ++ t = Dig.dec n ++ 13 :: 10 :: t := by rw [List.append_assoc]; rfl
  have h2 := textP_app (Dig.dec n) t
  rw [e] at h2 ⊢
  rw [h, h2]
  rfl
/-- what is no decimal's beginning, or one out of range, is refused. -/
theorem devP_bad {lo hi : Int} {L : List UInt8} {x : UInt8} {t : List UInt8} (hL : ∀ c ∈ L, numC.contains c = true) (hl : L.length ≤ 20) (hx : numC.contains x = false) (h : ∀ v, Dig.dec v = L → ¬ (lo ≤ v ∧ v ≤ hi)) :
    devP lo hi (L ++ x :: t) = .err 5 := by
  unfold devP
  rw [lead_app hL hl hx, if_neg (fun h => by
    have := h.2
    simp at this)]
  cases ha : Lib.atoiAll L with
  | ok v =>
    simp only
    rw [if_neg (fun hh => h v hh.1 hh.2)]
  | «syntax» => rfl
  | range => rfl

/-! lines, texts -/
theorem lineP_app {s : List UInt8} (hp : plainB s = true) (hl : s.length ≤ 512) (t : List UInt8) : lineP (s ++ crlf ++ t) = .ok s t := by
  have e : s ++ crlf ++ t = s ++ 13 :: 10 :: t := by rw [List.append_assoc]; rfl
  unfold lineP
  have hr : (s ++ crlf ++ t).takeWhile (fun b => b != 13 && b != 10) = s := by
    rw [e]
    refine takeWhile_app s 13 (10 :: t) (fun c hc => ?_) (by decide)
    unfold plainB at hp
    exact List.all_eq_true.1 hp c hc
  rw [hr]
  simp only
  rw [if_neg (by omega), e, List.drop_left]
  rfl
theorem bulkD_app {s : List UInt8} (hl : s.length ≤ 1048576) (t : List UInt8) : bulkD (Dig.dec (s.length : Int) ++ crlf ++ (s ++ crlf ++ t)) = .ok (.mk 4 s 0 []) t := by
  unfold bulkD
  rw [devP_ok (by omega) (by omega) (by omega) (by omega)]
  simp only [Out.bind]
  rw [if_neg (by omega), Int.toNat_natCast, textP_app]
  rfl
theorem bulkD_nil (t : List UInt8) : bulkD (Dig.dec (-1) ++ crlf ++ t) = .ok (.mk 5 [] 0 []) t := by
  unfold bulkD
  rw [devP_ok (by omega) (by omega) (by omega) (by omega)]
  rfl
theorem manyP_app {f : List UInt8 → Out R} : ∀ (l : List R) (t : List UInt8), (∀ r ∈ l, ∀ u, f (enc r ++ u) = .ok r u) → manyP f l.length (encL l ++ t) = .ok l t
  | [], t, _ => by simp [manyP, encL]
  | r :: l, t, h => by
    rw [List.length_cons, manyP, encL, List.append_assoc, h r (by simp)]
    show (manyP f l.length (encL l ++ t)).map _ = _
    rw [manyP_app l t (fun x hx => h x (by simp [hx]))]
    rfl

/-- a number that there is. -/
def NumOk (h : H) : Prop := -9223372036854775808 ≤ h.n ∧ h.n ≤ 9223372036854775807

theorem markD_str {A : List UInt8 → Out R} {s : List UInt8} (hp : plainB s = true) (hl : s.length ≤ 512) (t : List UInt8) : markD A (43 :: (s ++ crlf ++ t)) = .ok (.mk 1 s 0 []) t ∧ markD A (45 :: (s ++ crlf ++ t)) = .ok (.mk 2 s 0 []) t := by
  constructor
  · show (lineP (s ++ crlf ++ t)).map _ = _
    rw [lineP_app hp hl]
    rfl
  · show (lineP (s ++ crlf ++ t)).map _ = _
    rw [lineP_app hp hl]
    rfl

mutual
theorem reply_enc : ∀ (r : R) (lev : Nat) (t : List UInt8), (∀ p ∈ heads lev r, okB p = true ∧ NumOk p.1) → lev ≤ 8 → replyD (8 - lev) (enc r ++ t) = .ok r t
  | .mk k s n l, lev, t, h, hlev => by
    have hh := h (⟨k, s, n, l.length⟩, lev) (by rw [heads_eq]; simp [R.k, R.s, R.n, R.l])
    obtain ⟨hok, hn0, hn1⟩ := hh
    unfold okB at hok
    rw [Bool.and_eq_true] at hok
    obtain ⟨hf, hd⟩ := hok
    unfold fitsB at hf
    simp only at hf hn0 hn1 hd
    have hm : ∀ d, replyD d = markD (match d with | 0 => fun _ => .err 5 | d + 1 => arrD (replyD d)) := fun d => by cases d <;> rfl
    rw [hm, enc]
    by_cases h1 : k = 1 ∨ k = 2
    · rw [if_pos h1] at hf
      simp only [Bool.and_eq_true, decide_eq_true_eq] at hf
      obtain ⟨⟨⟨hl, hp⟩, hn⟩, hl0⟩ := hf
      obtain rfl := List.eq_nil_of_length_eq_zero hl0
      subst hn
      rcases h1 with rfl | rfl
      · have e : own ⟨1, s, 0, ([] : List R).length⟩ ++ encL [] ++ t = 43 :: (s ++ crlf ++ t) := by simp [own, encL]
        rw [e]; exact (markD_str hp hl t).1
      · have e : own ⟨2, s, 0, ([] : List R).length⟩ ++ encL [] ++ t = 45 :: (s ++ crlf ++ t) := by simp [own, encL]
        rw [e]; exact (markD_str hp hl t).2
    · rw [if_neg h1] at hf
      by_cases h3 : k = 3
      · rw [if_pos h3] at hf
        simp only [Bool.and_eq_true, decide_eq_true_eq] at hf
        obtain ⟨rfl, hl0⟩ := hf
        obtain rfl := List.eq_nil_of_length_eq_zero hl0
        subst h3
        have e : own ⟨3, [], n, ([] : List R).length⟩ ++ encL [] ++ t = 58 :: (Dig.dec n ++ crlf ++ t) := by simp [own, encL]
        rw [e]
        show (devP _ _ (Dig.dec n ++ crlf ++ t)).map _ = _
        rw [devP_ok hn0 hn1 hn0 hn1]
        rfl
      · rw [if_neg h3] at hf
        by_cases h4 : k = 4
        · rw [if_pos h4] at hf
          simp only [Bool.and_eq_true, decide_eq_true_eq] at hf
          obtain ⟨⟨hl, rfl⟩, hl0⟩ := hf
          obtain rfl := List.eq_nil_of_length_eq_zero hl0
          subst h4
          have e : own ⟨4, s, 0, ([] : List R).length⟩ ++ encL [] ++ t = 36 :: (Dig.dec (s.length : Int) ++ crlf ++ (s ++ crlf ++ t)) := by simp [own, encL]
          rw [e]
          exact bulkD_app hl t
        · rw [if_neg h4] at hf
          by_cases h5 : k = 5
          · rw [if_pos h5] at hf
            simp only [Bool.and_eq_true, decide_eq_true_eq] at hf
            obtain ⟨⟨rfl, rfl⟩, hl0⟩ := hf
            obtain rfl := List.eq_nil_of_length_eq_zero hl0
            subst h5
            have e : own ⟨5, [], 0, ([] : List R).length⟩ ++ encL [] ++ t = 36 :: (Dig.dec (-1) ++ crlf ++ t) := by simp [own, encL]
            rw [e]
            exact bulkD_nil t
          · rw [if_neg h5] at hf
            by_cases h6 : k = 6
            · rw [if_pos h6] at hf
              simp only [Bool.and_eq_true, decide_eq_true_eq] at hf
              obtain ⟨⟨rfl, rfl⟩, hl⟩ := hf
              subst h6
              have hlt : lev < 8 := by
                simp only [decide_true, Bool.true_and, Bool.not_eq_true', decide_eq_false_iff_not] at hd
                omega
              obtain ⟨d, hde⟩ : ∃ d, 8 - lev = d + 1 := ⟨8 - lev - 1, by omega⟩
              have hd2 : d = 8 - (lev + 1) := by omega
              rw [hde]
              have e : own ⟨6, [], 0, l.length⟩ ++ encL l ++ t = 42 :: (Dig.dec (l.length : Int) ++ crlf ++ (encL l ++ t)) := by simp [own]
              rw [e]
              show arrD (replyD d) (Dig.dec (l.length : Int) ++ crlf ++ (encL l ++ t)) = _
              unfold arrD
              rw [devP_ok (by omega) (by omega) (by omega) (by omega)]
              show (manyP (replyD d) (l.length : Int).toNat (encL l ++ t)).map _ = _
              rw [Int.toNat_natCast, manyP_app l t (fun r hr u => by
                rw [hd2]
                exact reply_encL l (lev + 1) (fun p hp => h p (by rw [heads_eq]; simp [R.l, hp])) (by omega) r hr u)]
              rfl
            · rw [if_neg h6] at hf
              cases hf
theorem reply_encL : ∀ (l : List R) (lev : Nat), (∀ p ∈ headsL lev l, okB p = true ∧ NumOk p.1) → lev ≤ 8 → ∀ r ∈ l, ∀ t, replyD (8 - lev) (enc r ++ t) = .ok r t
  | [], _, _, _, r, hr, _ => by cases hr
  | x :: l, lev, h, hlev, r, hr, t => by
    rcases List.mem_cons.1 hr with hx | hr
    · rw [hx]
      exact reply_enc x lev t (fun p hp => h p (by rw [headsL]; simp [hp])) hlev
    · exact reply_encL l lev (fun p hp => h p (by rw [headsL]; simp [hp])) hlev r hr t
end

/-- GET OF PUT. -/
theorem get_put {r : R} (h : mayB r = true) (hn : ∀ p ∈ heads 0 r, NumOk p.1) (t : List UInt8) : replyD 8 (enc r ++ t) = .ok r t := by
  unfold mayB at h
  rw [List.all_eq_true] at h
  exact reply_enc r 0 t (fun p hp => ⟨h p hp, hn p hp⟩) (by decide)
end Rp
end Go.Proofs.YtcjbfgkmpoebgaaDoor
