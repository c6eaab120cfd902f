/- What a text's words tell as an item, plain: what Get and GetItem take a text for (10.1). No program in it. Replies in memory of which the texts are told. -/
import Derived.Test.YtbkhnnjjpelfcaaGreatDoorDpEnc
import Derived.Test.YtbkhnnjjpelfcaaGreatDoorRpRefPlain
import Derived.Test.YtbkhnnjjpelfcaaGreatDoorRpReplyAll
import Derived.Test.YtbkhnnjjpelfcaaGreatDoorRpWords
import Derived.Test.YtbkhnnjjpelfcaaGreatDoorRpBase
namespace Go.Proofs.YtbkhnnjjpelfcaaGreatDoor
set_option linter.unusedVariables false
set_option linter.unusedSimpArgs false
namespace Rp
theorem suf_len {t bs : List UInt8} (h : IsSuf t bs) : t.length ≤ bs.length := by
  obtain ⟨j, hj⟩ := h
  rw [hj, List.length_drop]; omega
/-- no part that was read is longer than the bytes. -/
def Sml (r : R) (m : Nat) : Prop := r.s.length ≤ m ∧ r.l.length ≤ 65536 ∧ ∀ x ∈ r.l, x.s.length ≤ m
theorem sml_leaf {k n : Int} {s : List UInt8} {m : Nat} (h : s.length ≤ m) : Sml (.mk k s n []) m := ⟨h, Nat.zero_le _, fun x hx => by cases hx⟩
theorem Sml.up {r : R} {a b : Nat} (h : Sml r a) (hab : a ≤ b) : Sml r b := ⟨Nat.le_trans h.1 hab, h.2.1, fun x hx => Nat.le_trans (h.2.2 x hx) hab⟩
theorem bulkD_s {bs t : List UInt8} {r : R} (h : bulkD bs = .ok r t) : Sml r bs.length := by
  unfold bulkD at h
  cases hd : devP (-1) 1048576 bs with
  | err e => rw [hd] at h; cases h
  | ok n u =>
    rw [hd] at h
    obtain ⟨h1, h2, h3⟩ := devP_inv hd
    simp only [Out.bind] at h
    split at h
    · injection h with h4 h5
      subst h4 h5
      exact sml_leaf (Nat.zero_le _)
    · cases htx : textP n.toNat u with
      | err e => rw [htx] at h; cases h
      | ok s w =>
        rw [htx] at h
        injection h with h4 h5
        subst h4 h5
        obtain ⟨h6, _, h8⟩ := textP_inv htx
        refine sml_leaf ?_
        rw [h1, h6]
        simp only [List.length_append]
        omega
theorem manyP_s {f : List UInt8 → Out R} (hf : ∀ b r t, f b = .ok r t → Sml r b.length ∧ t.length ≤ b.length) : ∀ (n : Nat) (bs t : List UInt8) (l : List R), manyP f n bs = .ok l t → ∀ x ∈ l, x.s.length ≤ bs.length
  | 0, bs, t, l, h => by
    injection h with h1 h2
    subst h1 h2
    intro x hx; cases hx
  | n + 1, bs, t, l, h => by
    unfold manyP at h
    cases h1 : f bs with
    | err e => rw [h1] at h; cases h
    | ok r u =>
      rw [h1] at h
      simp only [Out.bind] at h
      cases h2 : manyP f n u with
      | err e => rw [h2] at h; cases h
      | ok l' w =>
        rw [h2] at h
        injection h with h3 h4
        rw [← h3]
        obtain ⟨a1, a2⟩ := hf bs r u h1
        intro x hx
        rcases List.mem_cons.1 hx with rfl | hx
        · exact a1.1
        · exact Nat.le_trans (manyP_s hf n u w l' h2 x hx) a2
theorem arrD_s {f : List UInt8 → Out R} (hf : ∀ b r t, f b = .ok r t → Sml r b.length ∧ t.length ≤ b.length) (hi : ∀ b r t, f b = .ok r t → b = enc r ++ t) {bs t : List UInt8} {r : R} (h : arrD f bs = .ok r t) : Sml r bs.length := by
  unfold arrD at h
  cases hd : devP 0 65536 bs with
  | err e => rw [hd] at h; cases h
  | ok n u =>
    rw [hd] at h
    obtain ⟨h1, h2, h3⟩ := devP_inv hd
    simp only [Out.bind] at h
    cases hm : manyP f n.toNat u with
    | err e => rw [hm] at h; cases h
    | ok l w =>
      rw [hm] at h
      injection h with h4 h5
      subst h4 h5
      obtain ⟨h6, h7⟩ := manyP_inv hi _ _ _ _ hm
      have h8 := manyP_s hf _ _ _ _ hm
      have hu : u.length ≤ bs.length := by rw [h1]; simp only [List.length_append]; omega
      exact ⟨Nat.zero_le _, by show l.length ≤ 65536; omega, fun x hx => Nat.le_trans (h8 x hx) hu⟩
theorem markD_s {A : List UInt8 → Out R} (hA : ∀ b r t, A b = .ok r t → Sml r b.length) {bs t : List UInt8} {r : R} (h : markD A bs = .ok r t) : Sml r bs.length := by
  cases bs with
  | nil => cases h
  | cons x u =>
    have hu : u.length ≤ (x :: u).length := by rw [List.length_cons]; omega
    rw [markD] at h
    split at h
    · cases hl : lineP u with
      | err c => rw [hl] at h; cases h
      | ok s w =>
        rw [hl] at h
        injection h with h1 h2
        rw [← h1]
        refine (sml_leaf ?_).up hu
        rw [lineP_inv hl]; simp only [List.length_append]; omega
    split at h
    · cases hl : lineP u with
      | err c => rw [hl] at h; cases h
      | ok s w =>
        rw [hl] at h
        injection h with h1 h2
        rw [← h1]
        refine (sml_leaf ?_).up hu
        rw [lineP_inv hl]; simp only [List.length_append]; omega
    split at h
    · cases hl : devP (-9223372036854775808) 9223372036854775807 u with
      | err c => rw [hl] at h; cases h
      | ok n w =>
        rw [hl] at h
        injection h with h1 h2
        rw [← h1]
        exact sml_leaf (Nat.zero_le _)
    split at h
    · exact (bulkD_s h).up hu
    split at h
    · exact (hA _ _ _ h).up hu
    · cases h
theorem replyD_s : ∀ (d : Nat) (b : List UInt8) (r : R) (t : List UInt8), replyD d b = .ok r t → Sml r b.length
  | 0, b, r, t, h => by
    rw [replyD] at h
    exact markD_s (fun _ _ _ h => by cases h) h
  | d + 1, b, r, t, h => by
    rw [replyD] at h
    exact markD_s (fun _ _ _ h => arrD_s (fun b r t h => ⟨replyD_s d b r t h, suf_len (replyD_suf d h)⟩) (replyD_inv d) h) h
end Rp
namespace Dp
/-- the item by what is in it. -/
def filledS (k e : Int) (l : List Bs) : Option It.I :=
  if k = 1 then (if l.length = 1 then some ⟨k, l.getD 0 [], [], [], e⟩ else none)
  else if k = 2 then (if l.length % 2 = 0 then some ⟨k, [], pairsS l, [], e⟩ else none)
  else if k = 3 ∨ k = 4 then some ⟨k, [], [], l, e⟩ else none
/-- the item that may have these words. -/
def readS (l : List Bs) : Option It.I :=
  if l.length < 2 then none
  else if (Tx.numS (l.getD 0 [])).2 = true ∧ (Tx.numS (l.getD 1 [])).2 = true then filledS (Tx.numS (l.getD 0 [])).1 (Tx.numS (l.getD 1 [])).1 (l.drop 2) else none
/-- what Get tells. -/
def devS (s : Bs) : Option It.I := match Rp.replyD 8 s with
  | .err _ => none
  | .ok r _ => match readS (r.l.map (·.s)) with
    | none => none
    | some i => if putS i = s then some i else none
/-- what GetItem tells. -/
def refS (s : Bs) : Option It.I := if s.length < 2 then none else match Rp.replyD 8 s with
  | .err _ => none
  | .ok r t => if r.k = 6 ∧ t.length = 2 ∧ 3 ≤ r.l.length then
      (if putS (candI (Tx.numS ((r.l.map (·.s)).getD 0 [])).1 (Tx.numS ((r.l.map (·.s)).getD 1 [])).1 (r.l.map (·.s))) = s then some (candI (Tx.numS ((r.l.map (·.s)).getD 0 [])).1 (Tx.numS ((r.l.map (·.s)).getD 1 [])).1 (r.l.map (·.s))) else none)
    else none

theorem nums_words {j : It.I} (h : It.mayB j = true) : Tx.numS ((wordsI j).getD 0 []) = (j.kind, true) ∧ Tx.numS ((wordsI j).getD 1 []) = (j.exp, true) := by
  obtain ⟨x0, x1, -, c⟩ := may_cases h
  have hk : 1 ≤ j.kind ∧ j.kind ≤ 4 := by rcases c with ⟨h, -⟩ | ⟨h, -⟩ | ⟨h, -⟩ <;> omega
  exact ⟨Tx.num_dec _ (by omega) (by omega), Tx.num_dec _ (by omega) (by omega)⟩
theorem read_words {j : It.I} (h : It.mayB j = true) : readS (wordsI j) = some j := by
  obtain ⟨n0, n1⟩ := nums_words h
  have h3 := (wordsI_len h).1
  obtain ⟨-, -, -, c⟩ := may_cases h
  unfold readS
  rw [if_neg (by omega), n0, n1, if_pos ⟨rfl, rfl⟩]
  clear n0 n1 h3 h
  obtain ⟨k, s, f, l, e⟩ := j
  simp only at c
  unfold wordsI
  simp only [List.drop_succ_cons, List.drop_zero]
  rcases c with ⟨rfl, rfl, rfl⟩ | ⟨rfl, rfl, -, -, -, rfl⟩ | ⟨hk, rfl, rfl, -⟩
  · show filledS 1 e [s] = _
    unfold filledS
    rw [if_pos rfl]; rfl
  · show filledS 2 e (It.fieldsS f) = _
    unfold filledS
    rw [if_neg (by decide), if_pos rfl, if_pos (by rw [fieldsS_len]; omega), pairs_fields]
  · have h : (if k = 1 then [[]] else if k = 2 then It.fieldsS [] else l) = l := by rw [if_neg (by omega), if_neg (by omega)]
    rw [h]
    unfold filledS
    rw [if_neg (by omega), if_neg (by omega), if_pos (by omega)]
theorem words_num (ws : List Bs) : ∀ p ∈ Rp.heads 0 (wordsR ws), Rp.NumOk p.1 := by
  intro p hp
  rw [words_all] at hp
  rcases List.mem_cons.1 hp with rfl | hp
  · exact ⟨(by decide : (-9223372036854775808 : Int) ≤ 0), (by decide : (0 : Int) ≤ 9223372036854775807)⟩
  · obtain ⟨s, _, rfl⟩ := List.mem_map.1 hp
    exact ⟨(by decide : (-9223372036854775808 : Int) ≤ 0), (by decide : (0 : Int) ≤ 9223372036854775807)⟩
theorem reply_words {ws : List Bs} (hl : ws.length ≤ 82) (hs : ∀ s ∈ ws, s.length ≤ 300) (t : Bs) : Rp.replyD 8 (encW ws ++ t) = .ok (wordsR ws) t := by
  have := Rp.get_put (words_may (ws := ws) (by omega) fun s h => by have := hs s h; omega) (words_num ws) t
  rw [show Rp.enc (wordsR ws) = encW ws from enc_words ws] at this
  exact this
theorem words_ss (ws : List Bs) : (wordsR ws).l.map (·.s) = ws := by
  show (ws.map fun s => Rp.R.mk 4 s 0 []).map (·.s) = ws
  rw [List.map_map]
  exact List.map_id ws
theorem reply_nil : ∃ c, Rp.replyD 8 [] = .err c := ⟨6, rfl⟩
theorem put_some {i : It.I} {s : Bs} (h : putS i = s) (hs : s ≠ []) : getS s = some i := by
  by_cases hc : It.mayB i = true
  · rw [← h]; unfold putS; rw [if_pos hc]; exact get_dump hc
  · unfold putS at h; rw [if_neg hc] at h; exact absurd h.symm hs
theorem dev_get (s : Bs) : devS s = getS s := by
  cases hg : getS s with
  | some j =>
    obtain ⟨h1, h2⟩ := get_some hg
    have hr := reply_words (wordsI_len h1).2 (wordsI_each h1) (crc2 (encW (wordsI j)))
    rw [show encW (wordsI j) ++ crc2 (encW (wordsI j)) = s from h2] at hr
    unfold devS
    rw [hr]
    simp only [words_ss, read_words h1]
    rw [if_pos (by unfold putS; rw [if_pos h1]; exact h2)]
  | none =>
    unfold devS
    cases hr : Rp.replyD 8 s with
    | err c => rfl
    | ok r t =>
      have hs : s ≠ [] := by rintro rfl; obtain ⟨c, hc⟩ := reply_nil; rw [hc] at hr; cases hr
      simp only
      cases hx : readS (r.l.map (·.s)) with
      | none => rfl
      | some i =>
        simp only
        by_cases hp : putS i = s
        · rw [put_some hp hs] at hg; cases hg
        · rw [if_neg hp]
theorem ref_get (s : Bs) : refS s = getS s := by
  cases hg : getS s with
  | some j =>
    obtain ⟨h1, h2⟩ := get_some hg
    have hr := reply_words (wordsI_len h1).2 (wordsI_each h1) (crc2 (encW (wordsI j)))
    rw [show encW (wordsI j) ++ crc2 (encW (wordsI j)) = s from h2] at hr
    obtain ⟨t, ht, hst, h3, hs2⟩ := get_parts hg
    obtain ⟨n0, n1⟩ := nums_words h1
    unfold refS
    rw [if_neg (by omega), hr]
    simp only [words_ss]
    rw [if_pos ⟨rfl, rfl, by show 3 ≤ ((wordsI j).map fun s => Rp.R.mk 4 s 0 []).length; rw [List.length_map]; exact h3⟩, n0, n1]
    simp only [cand_words h1]
    rw [if_pos (by unfold putS; rw [if_pos h1]; exact h2)]
  | none =>
    unfold refS
    split
    · rfl
    · rename_i hl
      have hs : s ≠ [] := by rintro rfl; simp at hl
      cases hr : Rp.replyD 8 s with
      | err c => rfl
      | ok r t =>
        simp only
        split
        · split
          · rename_i hp; rw [put_some hp hs] at hg; cases hg
          · rfl
        · rfl
end Dp
end Go.Proofs.YtbkhnnjjpelfcaaGreatDoor
namespace Go.Proofs.YtbkhnnjjpelfcaaGreatDoor
open Go.RowKit Go.Shelf
set_option linter.unusedVariables false
set_option linter.unusedSimpArgs false

/-- replies in memory of which the texts are told. -/
def Rps (w : World) (a : Option Addr) (cap : Nat) (ss : List (List UInt8)) : Prop :=
  ss.length ≤ cap ∧ cap ≤ 9223372036854775807 ∧ (∀ s ∈ ss, s.length ≤ 1000000) ∧ (ss = [] ∨ ∃ b off, a = some ⟨b, off, none⟩ ∧ b < w.heap.size ∧ ∀ j, j < ss.length → ∃ k n a3 l3 c3,
    w.cell? ⟨b, off + j * 4, none⟩ = some (.int .i64 k) ∧ w.cell? ⟨b, off + j * 4 + 1, none⟩ = some (.string ⟨(ss.getD j []).toArray⟩) ∧ w.cell? ⟨b, off + j * 4 + 2, none⟩ = some (.int .i64 n) ∧ w.cell? ⟨b, off + j * 4 + 3, none⟩ = some (.slice a3 l3 c3))
theorem Rps.later {w w' : World} {a : Option Addr} {cap : Nat} {ss : List (List UInt8)} (h : Rps w a cap ss) (hb : Below w.heap.size w w') : Rps w' a cap ss := by
  obtain ⟨h0, h1, h2, h3⟩ := h
  refine ⟨h0, h1, h2, h3.imp id ?_⟩
  rintro ⟨b, off, ha, hlt, hc⟩
  refine ⟨b, off, ha, Nat.lt_of_lt_of_le hlt hb.size, fun j hj => ?_⟩
  obtain ⟨k, n, a3, l3, c3, e0, e1, e2, e3⟩ := hc j hj
  have step : ∀ {o : Nat} {v : Value}, w.cell? ⟨b, o, none⟩ = some v → w'.cell? ⟨b, o, none⟩ = some v := fun h => (hb.cell (p := ⟨b, _, none⟩) hlt).trans h
  exact ⟨k, n, a3, l3, c3, step e0, step e1, step e2, step e3⟩
theorem Rps.get {w : World} {a : Option Addr} {cap : Nat} {ss : List (List UInt8)} (h : Rps w a cap ss) (h0 : 0 < ss.length) :
    ∃ b off, a = some ⟨b, off, none⟩ ∧ b < w.heap.size ∧ ∀ j, j < ss.length → ∃ k n a3 l3 c3,
    w.cell? ⟨b, off + j * 4, none⟩ = some (.int .i64 k) ∧ w.cell? ⟨b, off + j * 4 + 1, none⟩ = some (.string ⟨(ss.getD j []).toArray⟩) ∧ w.cell? ⟨b, off + j * 4 + 2, none⟩ = some (.int .i64 n) ∧ w.cell? ⟨b, off + j * 4 + 3, none⟩ = some (.slice a3 l3 c3) := by
  rcases h.2.2.2 with rfl | h
  · simp at h0
  · exact h

/-- a reply's elements, of which the texts are told. -/
theorem rps_of_rep {S : Nat → Prop} {w : World} {r : Rp.R} {k s n : Value} {a : Option Addr} {m c M : Nat} (h : Rep S w r (.agg #[k, s, n, .slice a m c])) (hs : Rp.Sml r M) (hM : M ≤ 1000000) :
    k = .int .i64 r.k ∧ s = .string ⟨r.s.toArray⟩ ∧ n = .int .i64 r.n ∧ m = r.l.length ∧ Rps w a c (r.l.map (·.s)) := by
  obtain ⟨a', c', hv, hf, hl⟩ := h.parts
  unfold rv at hv
  simp only [Value.agg.injEq, Array.mk.injEq, List.cons.injEq, and_true, Value.slice.injEq] at hv
  obtain ⟨rfl, rfl, rfl, rfl, rfl, rfl⟩ := hv
  refine ⟨rfl, rfl, rfl, rfl, ?_⟩
  obtain ⟨-, -, -, -, -, f6, f7, f8⟩ := hf
  refine ⟨by rw [List.length_map]; exact f6, f8, fun s hm => ?_, ?_⟩
  · obtain ⟨x, hx, rfl⟩ := List.mem_map.1 hm
    have := hs.2.2 x hx
    omega
  · rcases hl with hl | ⟨b, off, ha, _, hlt, hr⟩
    · exact .inl (by rw [hl]; rfl)
    · refine .inr ⟨b, off, ha, hlt, fun j hj => ?_⟩
      rw [List.length_map] at hj
      obtain ⟨v0, v1, v2, v3, c0, c1, c2, c3, hx⟩ := hr.get j hj
      obtain ⟨a3, c3', hv, -, -⟩ := hx.parts
      unfold rv at hv
      simp only [Value.agg.injEq, Array.mk.injEq, List.cons.injEq, and_true] at hv
      obtain ⟨rfl, rfl, rfl, rfl⟩ := hv
      have e : (r.l.map (·.s)).getD j [] = r.l[j].s := by simp [List.getD, hj]
      rw [e]
      exact ⟨_, _, _, _, _, c0, c1, c2, c3⟩

end Go.Proofs.YtbkhnnjjpelfcaaGreatDoor
