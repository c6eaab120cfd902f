/- Of each beginning of a reply's bytes more is asked for. -/
import Derived.Test.YtcjbfgkmpoebgaaDoorRpUniq
namespace Go.Proofs.YtcjbfgkmpoebgaaDoor
set_option linter.unusedVariables false

namespace Rp
/-- where a beginning of two texts ends. -/
theorem pre_split {p q a b : List UInt8} (h : p ++ q = a ++ b) (hq : q ≠ []) : (∃ q', q' ≠ [] ∧ p ++ q' = a) ∨ ∃ p', p = a ++ p' ∧ p' ++ q = b := by
  rcases List.append_eq_append_iff.1 h with ⟨a', h1, h2⟩ | ⟨c', h1, h2⟩
  · by_cases e : a' = []
    · subst e
      exact .inr ⟨[], by simpa using h1.symm, by simpa using h2⟩
    · exact .inl ⟨a', e, h1.symm⟩
  · exact .inr ⟨c', h1, h2.symm⟩

theorem crlf_pre {p q : List UInt8} (hq : q ≠ []) (h : p ++ q = crlf) : p = [] ∨ p = [13] := by
  unfold crlf at h
  match p, h with
  | [], _ => exact .inl rfl
  | [x], h => simp at h; exact .inr (by rw [h.1])
  | [x, y], h => simp at h; exact absurd h.2.2 hq
  | x :: y :: z :: t, h => simp at h

theorem endP_pre {α : Type} (a : α) {p : List UInt8} (h : p = [] ∨ p = [13]) : endP a p = .err 6 := by
  rcases h with rfl | rfl <;> rfl

theorem textP_pre {s p q : List UInt8} (hq : q ≠ []) (h : p ++ q = s ++ crlf) : textP s.length p = .err 6 := by
  unfold textP
  rcases pre_split h hq with ⟨q', hq', h'⟩ | ⟨p', rfl, h'⟩
  · have := congrArg List.length h'
    rw [List.length_append] at this
    have : 0 < q'.length := List.length_pos_iff.2 hq'
    rw [if_pos (by omega)]
  · rw [if_neg (by rw [List.length_append]; omega), List.take_left, List.drop_left]
    exact endP_pre _ (crlf_pre hq h')

theorem lineP_pre {s p q : List UInt8} (hs : plainB s = true) (hl : s.length ≤ 512) (hq : q ≠ []) (h : p ++ q = s ++ crlf) : lineP p = .err 6 := by
  have hall : ∀ c ∈ s, (c != 13 && c != 10) = true := List.all_eq_true.1 hs
  unfold lineP
  rcases pre_split h hq with ⟨q', hq', h'⟩ | ⟨p', rfl, h'⟩
  · have hp : ∀ c ∈ p, (c != 13 && c != 10) = true := fun c hc => hall c (by rw [← h']; simp [hc])
    have hlp := congrArg List.length h'
    rw [List.length_append] at hlp
    simp only [takeWhile_self p hp]
    rw [if_neg (by omega), List.drop_length]
    rfl
  · rcases crlf_pre hq h' with rfl | rfl
    · rw [List.append_nil]
      simp only [takeWhile_self s hall]
      rw [if_neg (by omega), List.drop_length]
      rfl
    · have : (s ++ [13]).takeWhile (fun b => b != 13 && b != 10) = s := takeWhile_app s 13 [] hall (by decide)
      simp only [this]
      rw [if_neg (by omega), List.drop_left]
      rfl

theorem digs_pre : ∀ (u : Nat) (p q : List UInt8), p ≠ [] → p ++ q = Dig.digs u → ∃ u', u' ≤ u ∧ (1 ≤ u → 1 ≤ u') ∧ p = Dig.digs u' := by
  intro u
  induction u using Nat.strongRecOn with
  | ind u ih =>
    intro p q hp h
    rcases List.eq_nil_or_concat q with rfl | ⟨q', x, rfl⟩
    · exact ⟨u, Nat.le_refl _, id, by rw [← h, List.append_nil]⟩
    · rw [Dig.digs] at h
      by_cases hu : u < 10
      · rw [if_pos hu] at h
        have := congrArg List.length h
        have h2 : 0 < p.length := List.length_pos_iff.2 hp
        simp at this
        omega
      · rw [if_neg hu, List.concat_eq_append, ← List.append_assoc] at h
        have h3 := (List.append_inj' h rfl).1
        obtain ⟨u', h4, h5, h6⟩ := ih (u / 10) (by omega) p q' hp h3
        exact ⟨u', by omega, fun _ => h5 (by omega), h6⟩

theorem dec_pre {v : Int} {p q : List UInt8} (hp : p ≠ []) (hm : p ≠ [45]) (h : p ++ q = Dig.dec v) : ∃ v', p = Dig.dec v' ∧ (0 ≤ v → 0 ≤ v' ∧ v' ≤ v) ∧ (v < 0 → v ≤ v' ∧ v' < 0) := by
  unfold Dig.dec at h
  by_cases hv : v < 0
  · rw [if_pos hv] at h
    cases p with
    | nil => exact absurd rfl hp
    | cons x p' =>
      simp only [List.cons_append, List.cons.injEq] at h
      obtain ⟨rfl, h⟩ := h
      obtain ⟨u', h1, h2, h3⟩ := digs_pre _ p' q (fun e => hm (by rw [e])) h
      have h4 := h2 (by omega)
      refine ⟨-(u' : Int), ?_, fun h0 => by omega, fun _ => by omega⟩
      unfold Dig.dec
      rw [if_pos (by omega), show (- -(u' : Int)).toNat = u' by omega, h3]
  · rw [if_neg hv] at h
    obtain ⟨u', h1, h2, h3⟩ := digs_pre _ p q hp h
    refine ⟨(u' : Int), ?_, fun _ => by omega, fun h0 => by omega⟩
    unfold Dig.dec
    rw [if_neg (by omega), Int.toNat_natCast, h3]

theorem lead_all {p : List UInt8} (h : ∀ c ∈ p, numC.contains c = true) (hl : p.length ≤ 20) : lead p = p := by
  unfold lead
  rw [List.take_of_length_le hl]
  exact takeWhile_self p h

theorem devP_lead {lo hi v : Int} {p : List UInt8} (h0 : -9223372036854775808 ≤ v) (h1 : v ≤ 9223372036854775807) (hlo : lo ≤ v) (hhi : v ≤ hi) (hle : lead p = Dig.dec v) (hd : p.drop (Dig.dec v).length = [] ∨ p.drop (Dig.dec v).length = [13]) (hlen : (Dig.dec v).length ≤ p.length) : devP lo hi p = .err 6 := by
  unfold devP
  by_cases hc : (lead p = [] ∨ (lead p = [45] ∧ lo < 0)) ∧ (lead p).length = p.length
  · rw [if_pos hc]
  · rw [if_neg hc, hle, atoi_dec h0 h1]
    simp only
    rw [if_pos ⟨trivial, hlo, hhi⟩]
    unfold textP
    rw [if_neg (by omega), endP_pre _ hd]
    rfl

theorem devP_pre {lo hi v : Int} (h0 : -9223372036854775808 ≤ v) (h1 : v ≤ 9223372036854775807) (hlo : lo ≤ v) (hhi : v ≤ hi) (hz0 : lo ≤ 0) (hz1 : 0 ≤ hi) {p q : List UInt8} (hq : q ≠ []) (h : p ++ q = Dig.dec v ++ crlf) : devP lo hi p = .err 6 := by
  have hl := dec20 h0 h1
  rcases pre_split h hq with ⟨q', hq', h'⟩ | ⟨p', rfl, h'⟩
  · have hn : ∀ c ∈ p, numC.contains c = true := fun c hc => dec_numC (n := v) (by rw [← h']; simp [hc])
    have hlp := congrArg List.length h'
    rw [List.length_append] at hlp
    have hle := lead_all hn (by omega)
    by_cases hc : p = [] ∨ (p = [45] ∧ lo < 0)
    · unfold devP
      rw [hle, if_pos ⟨hc, rfl⟩]
    · have hp : p ≠ [] := fun e => hc (.inl e)
      have hm : p ≠ [45] := fun e => by
        refine hc (.inr ⟨e, ?_⟩)
        subst e
        unfold Dig.dec at h'
        by_cases hv : v < 0
        · omega
        · rw [if_neg hv] at h'
          have hd : Tx.isD 45 = true := digs_isD (u := v.toNat) (by rw [← h']; simp)
          exact absurd hd (by decide)
      obtain ⟨v', e1, e2, e3⟩ := dec_pre hp hm h'
      have hcase : 0 ≤ v ∨ v < 0 := by omega
      have hb : -9223372036854775808 ≤ v' ∧ v' ≤ 9223372036854775807 ∧ lo ≤ v' ∧ v' ≤ hi := by
        rcases hcase with hv | hv
        · have := e2 hv; omega
        · have := e3 hv; omega
      refine devP_lead hb.1 hb.2.1 hb.2.2.1 hb.2.2.2 (hle.trans e1) (.inl ?_) (by rw [← e1]; exact Nat.le_refl _)
      rw [← e1, List.drop_length]
  · have hn : ∀ c ∈ Dig.dec v, numC.contains c = true := fun c hc => dec_numC hc
    refine devP_lead h0 h1 hlo hhi ?_ ?_ (by rw [List.length_append]; omega)
    · rcases crlf_pre hq h' with rfl | rfl
      · rw [List.append_nil]; exact lead_all hn hl
      · exact lead_app hn hl (by decide)
    · rw [List.drop_left]
      exact crlf_pre hq h'

/-- a reply's bytes that end too soon. -/
def Asks (f : List UInt8 → Out R) (r : R) : Prop := ∀ p q, q ≠ [] → p ++ q = enc r → f p = .err 6

theorem manyP_pre {f : List UInt8 → Out R} : ∀ (l : List R), (∀ r ∈ l, Asks f r ∧ ∀ t, f (enc r ++ t) = .ok r t) → ∀ p q, q ≠ [] → p ++ q = encL l → manyP f l.length p = .err 6
  | [], _, p, q, hq, h => by
    rw [encL] at h
    exact absurd (List.append_eq_nil_iff.1 h).2 hq
  | r :: l, hr, p, q, hq, h => by
    rw [encL] at h
    rw [List.length_cons, manyP]
    rcases pre_split h hq with ⟨q', hq', h'⟩ | ⟨p', rfl, h'⟩
    · rw [(hr r (by simp)).1 p q' hq' h']
      rfl
    · rw [(hr r (by simp)).2 p']
      simp only [Out.bind]
      rw [manyP_pre l (fun x hx => hr x (by simp [hx])) p' q hq h']
      rfl

theorem bulk_pre {s : List UInt8} (hl : s.length ≤ 1048576) {p q : List UInt8} (hq : q ≠ []) (h : p ++ q = Dig.dec (s.length : Int) ++ crlf ++ (s ++ crlf)) : bulkD p = .err 6 := by
  unfold bulkD
  rcases pre_split h hq with ⟨q', hq', h'⟩ | ⟨p', rfl, h'⟩
  · rw [devP_pre (by omega) (by omega) (by omega) (by omega) (by omega) (by omega) hq' h']
    rfl
  · rw [devP_ok (by omega) (by omega) (by omega) (by omega)]
    simp only [Out.bind]
    rw [if_neg (by omega), Int.toNat_natCast, textP_pre hq h']
    rfl

mutual
theorem reply_pre : ∀ (r : R) (lev : Nat), (∀ p ∈ heads lev r, okB p = true ∧ NumOk p.1) → lev ≤ 8 → Asks (replyD (8 - lev)) r
  | .mk k s n l, lev, h, hlev => by
    intro p q hq he
    have hh := h (⟨k, s, n, l.length⟩, lev) (by rw [heads_eq]; simp [R.k, R.s, R.n, R.l])
    obtain ⟨hok, hn0, hn1⟩ := hh
    unfold okB at hok
    rw [Bool.and_eq_true] at hok
    obtain ⟨hf, hd⟩ := hok
    unfold fitsB at hf
    simp only at hf hn0 hn1 hd
    have hm : ∀ d, replyD d = markD (match d with | 0 => fun _ => .err 5 | d + 1 => arrD (replyD d)) := fun d => by cases d <;> rfl
    rw [enc] at he
    cases p with
    | nil => rw [hm]; rfl
    | cons x p =>
      by_cases h1 : k = 1 ∨ k = 2
      · rw [if_pos h1] at hf
        simp only [Bool.and_eq_true, decide_eq_true_eq] at hf
        obtain ⟨⟨⟨hl, hp⟩, hn⟩, hl0⟩ := hf
        obtain rfl := List.eq_nil_of_length_eq_zero hl0
        subst hn
        rcases h1 with rfl | rfl
        · have e : own ⟨1, s, 0, ([] : List R).length⟩ ++ encL [] = 43 :: (s ++ crlf) := by simp [own, encL]
          rw [e, List.cons_append, List.cons.injEq] at he
          obtain ⟨rfl, he⟩ := he
          rw [hm]
          show (lineP p).map _ = _
          rw [lineP_pre hp hl hq he]
          rfl
        · have e : own ⟨2, s, 0, ([] : List R).length⟩ ++ encL [] = 45 :: (s ++ crlf) := by simp [own, encL]
          rw [e, List.cons_append, List.cons.injEq] at he
          obtain ⟨rfl, he⟩ := he
          rw [hm]
          show (lineP p).map _ = _
          rw [lineP_pre hp hl hq he]
          rfl
      · rw [if_neg h1] at hf
        by_cases h3 : k = 3
        · rw [if_pos h3] at hf
          simp only [Bool.and_eq_true, decide_eq_true_eq] at hf
          obtain ⟨rfl, hl0⟩ := hf
          obtain rfl := List.eq_nil_of_length_eq_zero hl0
          subst h3
          have e : own ⟨3, [], n, ([] : List R).length⟩ ++ encL [] = 58 :: (Dig.dec n ++ crlf) := by simp [own, encL]
          rw [e, List.cons_append, List.cons.injEq] at he
          obtain ⟨rfl, he⟩ := he
          rw [hm]
          show (devP _ _ p).map _ = _
          rw [devP_pre hn0 hn1 hn0 hn1 (by omega) (by omega) hq he]
          rfl
        · rw [if_neg h3] at hf
          by_cases h4 : k = 4
          · rw [if_pos h4] at hf
            simp only [Bool.and_eq_true, decide_eq_true_eq] at hf
            obtain ⟨⟨hl, rfl⟩, hl0⟩ := hf
            obtain rfl := List.eq_nil_of_length_eq_zero hl0
            subst h4
            have e : own ⟨4, s, 0, ([] : List R).length⟩ ++ encL [] = 36 :: (Dig.dec (s.length : Int) ++ crlf ++ (s ++ crlf)) := by simp [own, encL]
            rw [e, List.cons_append, List.cons.injEq] at he
            obtain ⟨rfl, he⟩ := he
            rw [hm]
            exact bulk_pre hl hq he
          · rw [if_neg h4] at hf
            by_cases h5 : k = 5
            · rw [if_pos h5] at hf
              simp only [Bool.and_eq_true, decide_eq_true_eq] at hf
              obtain ⟨⟨rfl, rfl⟩, hl0⟩ := hf
              obtain rfl := List.eq_nil_of_length_eq_zero hl0
              subst h5
              have e : own ⟨5, [], 0, ([] : List R).length⟩ ++ encL [] = 36 :: (Dig.dec (-1) ++ crlf) := by simp [own, encL]
              rw [e, List.cons_append, List.cons.injEq] at he
              obtain ⟨rfl, he⟩ := he
              rw [hm]
              show bulkD p = _
              unfold bulkD
              rw [devP_pre (by omega) (by omega) (by omega) (by omega) (by omega) (by omega) hq he]
              rfl
            · rw [if_neg h5] at hf
              by_cases h6 : k = 6
              · rw [if_pos h6] at hf
                simp only [Bool.and_eq_true, decide_eq_true_eq] at hf
                obtain ⟨⟨rfl, rfl⟩, hl⟩ := hf
                subst h6
                have hlt : lev < 8 := by
                  simp only [decide_true, Bool.true_and, Bool.not_eq_true', decide_eq_false_iff_not] at hd
                  omega
                obtain ⟨d, hde⟩ : ∃ d, 8 - lev = d + 1 := ⟨8 - lev - 1, by omega⟩
                have hd2 : d = 8 - (lev + 1) := by omega
                have e : own ⟨6, [], 0, l.length⟩ ++ encL l = 42 :: (Dig.dec (l.length : Int) ++ crlf ++ encL l) := by simp [own]
                rw [e, List.cons_append, List.cons.injEq] at he
                obtain ⟨rfl, he⟩ := he
                rw [hde]
                show arrD (replyD d) p = _
                unfold arrD
                rcases pre_split he hq with ⟨q', hq', h'⟩ | ⟨p', hp', h'⟩
                · rw [devP_pre (by omega) (by omega) (by omega) (by omega) (by omega) (by omega) hq' h']
                  rfl
                · rw [hp', devP_ok (by omega) (by omega) (by omega) (by omega)]
                  show (manyP (replyD d) (l.length : Int).toNat p').map _ = _
                  rw [Int.toNat_natCast, manyP_pre l (fun r hr => by
                    rw [hd2]
                    exact ⟨reply_preL l (lev + 1) (fun p hp => h p (by rw [heads_eq]; simp [R.l, hp])) (by omega) r hr, fun t => reply_encL l (lev + 1) (fun p hp => h p (by rw [heads_eq]; simp [R.l, hp])) (by omega) r hr t⟩) p' q hq h']
                  rfl
              · rw [if_neg h6] at hf
                cases hf
theorem reply_preL : ∀ (l : List R) (lev : Nat), (∀ p ∈ headsL lev l, okB p = true ∧ NumOk p.1) → lev ≤ 8 → ∀ r ∈ l, Asks (replyD (8 - lev)) r
  | [], _, _, _, r, hr => by cases hr
  | x :: l, lev, h, hlev, r, hr => by
    rcases List.mem_cons.1 hr with hx | hr
    · rw [hx]
      exact reply_pre x lev (fun p hp => h p (by rw [headsL]; simp [hp])) hlev
    · exact reply_preL l lev (fun p hp => h p (by rw [headsL]; simp [hp])) hlev r hr
end

/-- GET OF A BEGINNING. -/
theorem get_pre {r : R} (h : mayB r = true) (hn : ∀ p ∈ heads 0 r, NumOk p.1) {p q : List UInt8} (hq : q ≠ []) (he : p ++ q = enc r) : replyD 8 p = .err 6 := by
  unfold mayB at h
  rw [List.all_eq_true] at h
  exact reply_pre r 0 (fun p hp => ⟨h p hp, hn p hp⟩) (by decide) p q hq he
end Rp
end Go.Proofs.YtcjbfgkmpoebgaaDoor
