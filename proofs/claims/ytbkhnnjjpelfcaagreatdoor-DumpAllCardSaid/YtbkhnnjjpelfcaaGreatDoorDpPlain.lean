/- What an item is as a text, plain (10.1, 10.2): its words, their encoding, the check behind them; that the text tells the item, that no text is another's beginning, and that a byte turned makes no other one. No program in it. -/
import Derived.Test.YtbkhnnjjpelfcaaGreatDoorItPlain
import Derived.Test.YtbkhnnjjpelfcaaGreatDoorDigPlain
import Derived.Test.YtbkhnnjjpelfcaaGreatDoorSlotPlain
namespace Go.Proofs.YtbkhnnjjpelfcaaGreatDoor
namespace Dp
abbrev Bs := List UInt8

theorem val_digs (u : Nat) : (Dig.digs u).foldl (fun a c => 10 * a + (c.toNat - 48)) 0 = u := by
  induction u using Nat.strongRecOn with
  | ind u ih =>
    by_cases h : u < 10
    · rw [Dig.digs_small h]
      have : (UInt8.ofNat (48 + u)).toNat = 48 + u := by rw [UInt8.toNat_ofNat']; omega
      simp only [List.foldl_cons, List.foldl_nil, this]; omega
    · rw [Dig.digs_step h, List.foldl_append, ih (u / 10) (by omega)]
      have : (UInt8.ofNat (48 + u % 10)).toNat = 48 + u % 10 := by rw [UInt8.toNat_ofNat']; omega
      simp only [List.foldl_cons, List.foldl_nil, this]; omega
theorem digs_mem {u : Nat} {c : UInt8} (h : c ∈ Dig.digs u) : 48 ≤ c.toNat ∧ c.toNat ≤ 57 := by
  induction u using Nat.strongRecOn with
  | ind u ih =>
    by_cases hu : u < 10
    · rw [Dig.digs_small hu, List.mem_singleton] at h
      subst h; rw [UInt8.toNat_ofNat']; omega
    · rw [Dig.digs_step hu, List.mem_append, List.mem_singleton] at h
      rcases h with h | rfl
      · exact ih _ (by omega) h
      · rw [UInt8.toNat_ofNat']; omega
theorem digs_inj {u v : Nat} (h : Dig.digs u = Dig.digs v) : u = v := by rw [← val_digs u, h, val_digs]
theorem dec_nat (n : Nat) : Dig.dec (n : Int) = Dig.digs n := by
  unfold Dig.dec
  rw [if_neg (by omega)]; rfl
theorem dec_inj {a b : Int} (h : Dig.dec a = Dig.dec b) : a = b := by
  unfold Dig.dec at h
  have no : ∀ u v : Nat, 45 :: Dig.digs u ≠ Dig.digs v := fun u v e => by
    have h1 := digs_mem (u := v) (c := 45) (by rw [← e]; exact List.mem_cons_self ..)
    have h2 := h1.1
    revert h2; decide
  split at h <;> split at h
  · injection h with _ h
    have := digs_inj h; omega
  · exact absurd h (no _ _)
  · exact absurd h.symm (no _ _)
  · have := digs_inj h; omega

/-- two texts without c, each with c behind it. -/
theorem until_inj {c : UInt8} : ∀ {p q x y : Bs}, c ∉ p → c ∉ q → p ++ c :: x = q ++ c :: y → p = q ∧ x = y
  | [], [], _, _, _, _, h => by injection h with _ h; exact ⟨rfl, h⟩
  | [], b :: q, _, _, _, hq, h => by injection h with h _; exact absurd (h ▸ List.mem_cons_self ..) hq
  | a :: p, [], _, _, hp, _, h => by injection h with h _; exact absurd (h ▸ List.mem_cons_self ..) hp
  | a :: p, b :: q, x, y, hp, hq, h => by
    injection h with h1 h2
    obtain ⟨h3, h4⟩ := until_inj (fun h => hp (List.mem_cons_of_mem _ h)) (fun h => hq (List.mem_cons_of_mem _ h)) h2
    exact ⟨by rw [h1, h3], h4⟩
theorem no13 (n : Nat) : (13 : UInt8) ∉ Dig.digs n := fun h => by
  have := (digs_mem h).1
  revert this; decide

/-- one word, with its length. -/
def wordE (w : Bs) : Bs := 36 :: (Dig.digs w.length ++ [13, 10] ++ w ++ [13, 10])
/-- words one after the other. -/
def wordsL (l : List Bs) : Bs := l.flatMap wordE
/-- words with their number. -/
def encW (l : List Bs) : Bs := 42 :: (Dig.digs l.length ++ [13, 10] ++ wordsL l)

theorem wordE_inj {a b t u : Bs} (h : wordE a ++ t = wordE b ++ u) : a = b ∧ t = u := by
  unfold wordE at h
  simp only [List.cons_append, List.append_assoc, List.cons.injEq, true_and, List.nil_append] at h
  obtain ⟨h1, h2⟩ := until_inj (no13 _) (no13 _) h
  injection h2 with _ h2
  have hl := digs_inj h1
  obtain ⟨h3, h4⟩ := List.append_inj h2 hl
  simp only [List.cons.injEq, true_and] at h4
  exact ⟨h3, h4⟩
theorem wordsL_inj : ∀ {l k : List Bs} {t u : Bs}, l.length = k.length → wordsL l ++ t = wordsL k ++ u → l = k ∧ t = u
  | [], [], _, _, _, h => ⟨rfl, h⟩
  | [], _ :: _, _, _, h, _ => by cases h
  | _ :: _, [], _, _, h, _ => by cases h
  | a :: l, b :: k, t, u, hl, h => by
    simp only [wordsL, List.flatMap_cons, List.append_assoc] at h
    obtain ⟨h1, h2⟩ := wordE_inj h
    obtain ⟨h3, h4⟩ := wordsL_inj (l := l) (k := k) (by simpa using hl) h2
    exact ⟨by rw [h1, h3], h4⟩
theorem encW_inj {l k : List Bs} {t u : Bs} (h : encW l ++ t = encW k ++ u) : l = k ∧ t = u := by
  unfold encW at h
  simp only [List.cons_append, List.append_assoc, List.cons.injEq, true_and, List.nil_append] at h
  obtain ⟨h1, h2⟩ := until_inj (no13 _) (no13 _) h
  injection h2 with _ h2
  exact wordsL_inj (digs_inj h1) h2

/-- the words of an item. -/
def wordsI (i : It.I) : List Bs := Dig.dec i.kind :: Dig.dec i.exp :: (if i.kind = 1 then [i.s] else if i.kind = 2 then It.fieldsS i.f else i.l)
theorem fieldsS_inj : ∀ {f g : List (Bs × Bs)}, It.fieldsS f = It.fieldsS g → f = g
  | [], [], _ => rfl
  | [], _ :: _, h => by simp [It.fieldsS] at h
  | _ :: _, [], h => by simp [It.fieldsS] at h
  | (a, b) :: f, (c, d) :: g, h => by
    simp only [It.fieldsS, List.flatMap_cons, List.cons_append, List.nil_append, List.cons.injEq] at h
    obtain ⟨h1, h2, h3⟩ := h
    rw [h1, h2, fieldsS_inj (f := f) (g := g) h3]
theorem fieldsS_len (f : List (Bs × Bs)) : (It.fieldsS f).length = 2 * f.length := by
  induction f with
  | nil => rfl
  | cons p f ih =>
    have : It.fieldsS (p :: f) = p.1 :: p.2 :: It.fieldsS f := rfl
    rw [this, List.length_cons, List.length_cons, ih, List.length_cons]; omega

/-- what a valid item is. -/
theorem may_cases {i : It.I} (h : It.mayB i = true) : 0 ≤ i.exp ∧ i.exp ≤ 9007199254740992 ∧ (∀ s ∈ It.textsS i, s.length ≤ 300) ∧
    ((i.kind = 1 ∧ i.f = [] ∧ i.l = []) ∨ (i.kind = 2 ∧ i.s = [] ∧ 1 ≤ i.f.length ∧ i.f.length ≤ 40 ∧ It.risB (It.names i) = true ∧ i.l = []) ∨
      ((i.kind = 3 ∨ i.kind = 4 ∧ It.risB i.l = true) ∧ i.s = [] ∧ i.f = [] ∧ 1 ≤ i.l.length ∧ i.l.length ≤ 40)) := by
  unfold It.mayB at h
  simp only [Bool.and_eq_true, decide_eq_true_eq, List.all_eq_true] at h
  obtain ⟨⟨⟨h1, h2⟩, h3⟩, h4⟩ := h
  refine ⟨h1, h2, h4, ?_⟩
  unfold It.fitsB It.countB at h3
  split at h3
  · rename_i hk
    simp only [Bool.and_eq_true, decide_eq_true_eq, List.length_eq_zero_iff] at h3
    exact .inl ⟨hk, h3.1, h3.2⟩
  · split at h3
    · rename_i hk
      simp only [Bool.and_eq_true, decide_eq_true_eq, List.length_eq_zero_iff] at h3
      exact .inr (.inl ⟨hk, h3.1.1.1, h3.1.1.2.1, h3.1.1.2.2, h3.1.2, h3.2⟩)
    · split at h3
      · rename_i hk
        simp only [Bool.and_eq_true, decide_eq_true_eq, List.length_eq_zero_iff] at h3
        exact .inr (.inr ⟨.inl hk, h3.1.1, h3.1.2, h3.2.1, h3.2.2⟩)
      · split at h3
        · rename_i hk
          simp only [Bool.and_eq_true, decide_eq_true_eq, List.length_eq_zero_iff] at h3
          exact .inr (.inr ⟨.inr ⟨hk, h3.2⟩, h3.1.1.1, h3.1.1.2, h3.1.2.1, h3.1.2.2⟩)
        · cases h3
theorem wordsI_inj {i j : It.I} (hi : It.mayB i = true) (hj : It.mayB j = true) (h : wordsI i = wordsI j) : i = j := by
  unfold wordsI at h
  simp only [List.cons.injEq] at h
  obtain ⟨h1, h2, h3⟩ := h
  replace h1 := dec_inj h1
  replace h2 := dec_inj h2
  obtain ⟨-, -, -, ci⟩ := may_cases hi
  obtain ⟨-, -, -, cj⟩ := may_cases hj
  obtain ⟨ik, iS, iF, iL, ie⟩ := i
  obtain ⟨jk, jS, jF, jL, je⟩ := j
  simp only at *
  subst h1 h2
  rcases ci with ⟨rfl, rfl, rfl⟩ | ⟨rfl, rfl, -, -, -, rfl⟩ | ⟨hk, rfl, rfl, -⟩ <;> rcases cj with ⟨k, rfl, rfl⟩ | ⟨k, rfl, -, -, -, rfl⟩ | ⟨k, rfl, rfl, -⟩ <;> try omega
  · simp at h3; rw [h3]
  · simp at h3; rw [fieldsS_inj h3]
  · rw [if_neg (by omega), if_neg (by omega), if_neg (by omega), if_neg (by omega)] at h3
    rw [h3]

/-- the two bytes of the check. -/
def crc2 (l : Bs) : Bs := [UInt8.ofNat (Crc16.crc l / 256), UInt8.ofNat (Crc16.crc l % 256)]
theorem crc2_inj {a b : Bs} (h : crc2 a = crc2 b) : Crc16.crc a = Crc16.crc b := by
  unfold crc2 at h
  simp only [List.cons.injEq, and_true] at h
  obtain ⟨h1, h2⟩ := h
  have ha := Crc16.crc_lt a
  have hb := Crc16.crc_lt b
  have e : ∀ n, n < 256 → (UInt8.ofNat n).toNat = n := fun n hn => by rw [UInt8.toNat_ofNat']; omega
  have h1 := congrArg UInt8.toNat h1
  have h2 := congrArg UInt8.toNat h2
  rw [e _ (by omega), e _ (by omega)] at h1 h2
  omega
/-- an item as a text. -/
def dumpS (i : It.I) : Bs := encW (wordsI i) ++ crc2 (encW (wordsI i))
def putS (i : It.I) : Bs := if It.mayB i then dumpS i else []
theorem dump_pre {i j : It.I} {t : Bs} (hi : It.mayB i = true) (hj : It.mayB j = true) (h : dumpS i ++ t = dumpS j) : i = j ∧ t = [] := by
  unfold dumpS at h
  rw [List.append_assoc] at h
  obtain ⟨h1, h2⟩ := encW_inj h
  obtain rfl := wordsI_inj hi hj h1
  exact ⟨rfl, by simpa using h2⟩
theorem dump_inj {i j : It.I} (hi : It.mayB i = true) (hj : It.mayB j = true) (h : dumpS i = dumpS j) : i = j := (dump_pre (t := []) hi hj (by rw [List.append_nil, h])).1
theorem dump_ne (i : It.I) : dumpS i ≠ [] := by unfold dumpS encW; simp
theorem put_ne {i : It.I} (h : It.mayB i = true) : putS i ≠ [] := by unfold putS; rw [if_pos h]; exact dump_ne i
theorem put_inj {i j : It.I} (hi : It.mayB i = true) (h : putS i = putS j) : i = j := by
  by_cases hj : It.mayB j = true
  · unfold putS at h; rw [if_pos hi, if_pos hj] at h; exact dump_inj hi hj h
  · have := put_ne hi
    rw [h] at this
    unfold putS at this; rw [if_neg hj] at this; exact absurd rfl this
/-- cut by its last byte it is no item's. -/
theorem dump_cut {i j : It.I} (hi : It.mayB i = true) (hj : It.mayB j = true) {t : Bs} (ht : t ≠ []) (h : dumpS j ++ t = dumpS i) : False := ht (dump_pre hj hi h).2

/-- one byte turned turns the check. -/
theorem crc_one {l : Bs} {k h : Nat} (hk : k < l.length) (hh : h < 256) (h0 : h ≠ 0) : Crc16.crc l ≠ Crc16.crc (l.set k (UInt8.ofNat ((l.getD k 0).toNat ^^^ h))) := by
  intro e
  have e1 : l.getD k 0 = l[k] := by simp [List.getD, hk]
  have e2 : l = l.take k ++ l.getD k 0 :: l.drop (k + 1) := by rw [e1, List.getElem_cons_drop, List.take_append_drop]
  generalize hx : l.getD k 0 = x at e e2
  have e3 : l.set k (UInt8.ofNat (x.toNat ^^^ h)) = l.take k ++ UInt8.ofNat (x.toNat ^^^ h) :: l.drop (k + 1) := List.set_eq_take_append_cons_drop.trans (if_pos hk)
  rw [e3] at e
  generalize hp : l.take k = p at e e2
  generalize hq : l.drop (k + 1) = q at e e2
  rw [e2] at e
  unfold Crc16.crc at e
  rw [List.foldl_append, List.foldl_append] at e
  simp only [List.foldl_cons] at e
  have hc : p.foldl (fun c b => Crc16.byte c b.toNat) 0 < 65536 := Crc16.fold_lt _ 0 (by decide)
  generalize p.foldl (fun c b => Crc16.byte c b.toNat) 0 = c at e hc
  have hxl := UInt8.toNat_lt x
  rw [Crc16.ofNat_xor hxl hh] at e
  have hx' : x.toNat ^^^ h < 256 := Nat.xor_lt_two_pow (n := 8) hxl hh
  have e4 := Crc16.fold_inj _ _ _ (Crc16.byte_lt _ _ hc hxl) (Crc16.byte_lt _ _ hc hx') e
  have t := Crc16.two_turned c x.toNat 0 h 0 hc hxl (by decide) hh (by decide) (.inl h0)
  rw [e4] at t
  exact t rfl
/-- one byte turned makes no item's text of it. -/
theorem dump_turn {i j : It.I} {k h : Nat} (hk : k < (dumpS i).length) (hh : h < 256) (h0 : h ≠ 0) :
    (dumpS i).set k (UInt8.ofNat (((dumpS i).getD k 0).toNat ^^^ h)) ≠ dumpS j := by
  intro e
  have hl : (dumpS i).length = (dumpS j).length := by rw [← e, List.length_set]
  have ne : UInt8.ofNat (((dumpS i).getD k 0).toNat ^^^ h) ≠ (dumpS i).getD k 0 := fun e1 => by
    have e2 := congrArg UInt8.toNat e1
    rw [Crc16.ofNat_xor (UInt8.toNat_lt _) hh] at e2
    generalize ((dumpS i).getD k 0).toNat = x at e2
    have : x ^^^ (x ^^^ h) = x ^^^ x := by rw [e2]
    rw [← Nat.xor_assoc, Nat.xor_self, Nat.zero_xor] at this
    exact h0 this
  unfold dumpS at e hk hl ne
  generalize hB : encW (wordsI i) = B at e hk hl ne
  generalize hC : encW (wordsI j) = C at e hl
  rw [List.length_append, List.length_append] at hl
  have l2 : ∀ x, (crc2 x).length = 2 := fun _ => rfl
  rw [l2, l2] at hl
  rw [List.length_append, l2] at hk
  rcases Nat.lt_or_ge k B.length with hlt | hge
  · have g1 : (B ++ crc2 B).getD k 0 = B.getD k 0 := by rw [List.getD, List.getElem?_append_left hlt]; rfl
    rw [g1] at e ne
    rw [List.set_append_left _ _ hlt] at e
    obtain ⟨e1, e2⟩ := List.append_inj e (by rw [List.length_set]; omega)
    have := crc2_inj e2
    rw [← e1] at this
    exact crc_one hlt hh h0 this
  · rw [List.set_append_right _ _ hge] at e
    obtain ⟨e1, e2⟩ := List.append_inj e (by omega)
    subst e1
    have g1 : (B ++ crc2 B).getD k 0 = (crc2 B).getD (k - B.length) 0 := by simp [List.getD, List.getElem?_append_right hge]
    rw [g1] at e2 ne
    generalize hd : k - B.length = d at e2 ne
    have hd2 : d < (crc2 B).length := by rw [l2]; omega
    have e3 := congrArg (fun l => l[d]?) e2
    rw [List.getElem?_set_self hd2] at e3
    refine ne (Eq.symm ?_)
    generalize UInt8.ofNat (((crc2 B).getD d 0).toNat ^^^ h) = y at e3 ⊢
    show ((crc2 B)[d]?).getD 0 = y
    rw [← e3]
    rfl

/-- the item whose text it is. -/
noncomputable def getS (s : Bs) : Option It.I := open Classical in if h : ∃ i, It.mayB i = true ∧ dumpS i = s then some h.choose else none
theorem get_dump {i : It.I} (hi : It.mayB i = true) : getS (dumpS i) = some i := by
  have h : ∃ j, It.mayB j = true ∧ dumpS j = dumpS i := ⟨i, hi, rfl⟩
  unfold getS
  rw [dif_pos h]
  exact congrArg some (dump_inj h.choose_spec.1 hi h.choose_spec.2)
theorem get_some {s : Bs} {i : It.I} (h : getS s = some i) : It.mayB i = true ∧ dumpS i = s := by
  unfold getS at h
  split at h
  · rename_i hx
    injection h with h
    subst h
    exact hx.choose_spec
  · cases h
theorem get_none {s : Bs} (h : ∀ i, It.mayB i = true → dumpS i ≠ s) : getS s = none := by
  unfold getS
  rw [dif_neg]
  rintro ⟨i, h1, h2⟩
  exact h i h1 h2
theorem get_zero : getS [] = none := get_none fun i _ => dump_ne i

/-- a valid item's words: how many and how long. -/
theorem wordsI_len {i : It.I} (h : It.mayB i = true) : 3 ≤ (wordsI i).length ∧ (wordsI i).length ≤ 82 := by
  obtain ⟨-, -, -, c⟩ := may_cases h
  unfold wordsI
  rcases c with ⟨hk, -⟩ | ⟨hk, -, h1, h2, -⟩ | ⟨hk, -, -, h1, h2⟩
  · rw [if_pos hk]; simp
  · rw [if_neg (by omega), if_pos hk, List.length_cons, List.length_cons, fieldsS_len]; omega
  · rw [if_neg (by omega), if_neg (by omega), List.length_cons, List.length_cons]; omega
theorem wordsI_each {i : It.I} (h : It.mayB i = true) : ∀ s ∈ wordsI i, s.length ≤ 300 := by
  obtain ⟨h0, h1, h2, c⟩ := may_cases h
  have hd : ∀ n : Int, 0 ≤ n → n ≤ 9007199254740992 → (Dig.dec n).length ≤ 300 := fun n h3 h4 => by
    have := dec_nat n.toNat
    rw [Int.toNat_of_nonneg h3] at this
    rw [this]
    have := Dig.digs_len20 (u := n.toNat) (by omega)
    omega
  intro s hs
  unfold wordsI at hs
  rcases List.mem_cons.1 hs with rfl | hs
  · exact hd _ (by omega) (by omega)
  rcases List.mem_cons.1 hs with rfl | hs
  · exact hd _ h0 h1
  refine h2 s ?_
  unfold It.textsS
  split at hs
  · rw [List.mem_singleton] at hs; subst hs; exact List.mem_cons_self ..
  · split at hs
    · exact List.mem_cons_of_mem _ (List.mem_append_left _ hs)
    · exact List.mem_cons_of_mem _ (List.mem_append_right _ hs)
theorem encW_len {l : List Bs} (h1 : l.length ≤ 82) (h2 : ∀ s ∈ l, s.length ≤ 300) : (encW l).length ≤ 30000 := by
  have hw : ∀ (k : List Bs), (∀ s ∈ k, s.length ≤ 300) → (wordsL k).length ≤ 330 * k.length := by
    intro k
    induction k with
    | nil => intro _; simp [wordsL]
    | cons s k ih =>
      intro hk
      have a1 := ih fun x hx => hk x (List.mem_cons_of_mem _ hx)
      have a2 := hk s (List.mem_cons_self ..)
      have a3 := Dig.digs_len20 (u := s.length) (by omega)
      simp only [wordsL, List.flatMap_cons] at a1 ⊢
      rw [List.length_append, List.length_cons]
      simp only [wordE, List.length_append, List.length_cons, List.length_nil]
      omega
  have a1 := hw l h2
  have a3 := Dig.digs_len20 (u := l.length) (by omega)
  unfold encW
  simp only [List.length_append, List.length_cons, List.length_nil]
  omega
theorem dump_len {i : It.I} (h : It.mayB i = true) : (dumpS i).length ≤ 30002 := by
  have := encW_len (wordsI_len h).2 (wordsI_each h)
  unfold dumpS
  rw [List.length_append]
  have : (crc2 (encW (wordsI i))).length = 2 := rfl
  omega

/-- what the words of a text would be as an item. -/
def pairsS : List Bs → List (Bs × Bs)
  | a :: b :: l => (a, b) :: pairsS l
  | _ => []
theorem pairs_fields (f : List (Bs × Bs)) : pairsS (It.fieldsS f) = f := by
  induction f with
  | nil => rfl
  | cons p f ih => show pairsS (p.1 :: p.2 :: It.fieldsS f) = _; rw [pairsS, ih]

/-- an item out of its words. -/
def candI (k e : Int) (w : List Bs) : It.I := if k = 1 then ⟨k, w.getD 2 [], [], [], e⟩ else if k = 2 then ⟨k, [], pairsS (w.drop 2), [], e⟩ else ⟨k, [], [], w.drop 2, e⟩
theorem cand_words {j : It.I} (h : It.mayB j = true) : candI j.kind j.exp (wordsI j) = j := by
  obtain ⟨-, -, -, c⟩ := may_cases h
  obtain ⟨k, s, f, l, e⟩ := j
  simp only at c
  unfold candI wordsI
  simp only
  rcases c with ⟨rfl, rfl, rfl⟩ | ⟨rfl, rfl, -, -, -, rfl⟩ | ⟨hk, rfl, rfl, -⟩
  · simp
  · simp [pairs_fields]
  · rw [if_neg (by omega), if_neg (by omega), if_neg (by omega), if_neg (by omega)]; simp
/-- a text's item, by a candidate. -/
theorem get_by {s : Bs} {i : It.I} (hs : s ≠ []) (h : ∀ j, getS s = some j → i = j) : getS s = if putS i = s then some i else none := by
  by_cases hp : putS i = s
  · rw [if_pos hp]
    have hm : It.mayB i = true := by
      by_cases hc : It.mayB i = true
      · exact hc
      · unfold putS at hp; rw [if_neg hc] at hp; exact absurd hp.symm hs
    rw [← hp]; unfold putS; rw [if_pos hm]; exact get_dump hm
  · rw [if_neg hp]
    cases hg : getS s with
    | none => rfl
    | some j =>
      obtain ⟨h1, h2⟩ := get_some hg
      have := h j hg
      subst this
      exact absurd (by unfold putS; rw [if_pos h1]; exact h2) hp
/-- .. where the text begins with no words' encoding, or has not two bytes behind it, or too few words: none. -/
theorem get_parts {s : Bs} {j : It.I} (h : getS s = some j) : ∃ t, t.length = 2 ∧ s = encW (wordsI j) ++ t ∧ 3 ≤ (wordsI j).length ∧ 2 ≤ s.length := by
  obtain ⟨h1, h2⟩ := get_some h
  refine ⟨crc2 (encW (wordsI j)), rfl, h2.symm, (wordsI_len h1).1, ?_⟩
  rw [← h2]
  unfold dumpS
  rw [List.length_append]
  have : (crc2 (encW (wordsI j))).length = 2 := rfl
  omega
end Dp
end Go.Proofs.YtbkhnnjjpelfcaaGreatDoor
