/- Plain mathematics of routes (chapter 14): the texts that name a node, what they tell; a call's words by blanks; what its owner replies of a slot that moves. No program in it. -/
import Derived.Test.YtahmddopbmjepaaDoorRD01
import Derived.Test.YtahmddopbmjepaaDoorRD02
import Derived.Test.YtahmddopbmjepaaDoorRD06
import Derived.Lib.AtoiAll
namespace Go.Proofs.YtahmddopbmjepaaDoor
namespace Rt

theorem str_app (l m : List UInt8) : (⟨l.toArray⟩ : ByteArray) ++ ⟨m.toArray⟩ = ⟨(l ++ m).toArray⟩ := by
  apply ByteArray.ext; simp
theorem str_inj {l m : List UInt8} (h : (⟨l.toArray⟩ : ByteArray) = ⟨m.toArray⟩) : l = m := by
  injection h with h; injection h with h

/-! numbers -/
theorem parse_fold : ∀ (l : List UInt8) (acc : Nat), (∀ c ∈ l, Tx.isD c = true) → l.foldl (fun u c => 10 * u + (c.toNat - 48)) acc < 18446744073709551616 → Lib.parseUint10 acc l = .ok (l.foldl (fun u c => 10 * u + (c.toNat - 48)) acc)
  | [], acc, _, _ => rfl
  | c :: r, acc, hd, hb => by
    have hc := hd c (by simp)
    unfold Tx.isD at hc
    rw [Bool.and_eq_true, decide_eq_true_eq, decide_eq_true_eq] at hc
    rw [List.foldl_cons] at hb ⊢
    have hle : ∀ (r : List UInt8) (a : Nat), a ≤ r.foldl (fun u c => 10 * u + (c.toNat - 48)) a := by
      intro r
      induction r with
      | nil => intro a; simp
      | cons x r ih => intro a; rw [List.foldl_cons]; exact Nat.le_trans (by omega) (ih _)
    have hle := hle r (10 * acc + (c.toNat - 48))
    have ih := parse_fold r (10 * acc + (c.toNat - 48)) (fun x hx => hd x (by simp [hx])) hb
    unfold Lib.parseUint10
    rw [if_pos hc, if_neg (by omega), if_neg (by omega), show acc * 10 + (c.toNat - 48) = 10 * acc + (c.toNat - 48) by omega]
    exact ih

theorem digs_isD {u : Nat} {c : UInt8} (h : c ∈ Dig.digs u) : Tx.isD c = true := by
  have := (Tx.digs_val u).2
  unfold Tx.digB at this
  rw [List.all_eq_true] at this
  exact this c h

theorem mag_digs {u : Nat} (h : u < 18446744073709551616) : Lib.parseMag (Dig.digs u) = .ok u := by
  have hv := (Tx.digs_val u).1
  unfold Tx.valD at hv
  unfold Lib.parseMag
  rw [if_neg (Tx.digs_ne u), parse_fold (Dig.digs u) 0 (fun c hc => digs_isD hc) (by rw [hv]; exact h), hv]

theorem digs_cons (u : Nat) : ∃ c r, Dig.digs u = c :: r ∧ 48 ≤ c.toNat ∧ c.toNat ≤ 57 := by
  cases hd : Dig.digs u with
  | nil => exact absurd hd (Tx.digs_ne u)
  | cons c r =>
    refine ⟨c, r, rfl, ?_⟩
    have := digs_isD (u := u) (c := c) (by rw [hd]; simp)
    unfold Tx.isD at this
    rw [Bool.and_eq_true, decide_eq_true_eq, decide_eq_true_eq] at this
    exact this

theorem dec_nat (n : Nat) : Dig.dec (n : Int) = Dig.digs n := by
  unfold Dig.dec; rw [if_neg (by omega), Int.toNat_natCast]

theorem atoi_dec {n : Nat} (h1 : n ≤ 9223372036854775807) : Lib.atoiAll (Dig.dec (n : Int)) = .ok (n : Int) := by
  rw [dec_nat]
  obtain ⟨c, r, hc, c0, c1⟩ := digs_cons n
  have hm := mag_digs (u := n) (by omega)
  rw [hc] at hm ⊢
  unfold Lib.atoiAll
  have h45 : ¬ c.toNat = 45 := by omega
  have h43 : ¬ c.toNat = 43 := by omega
  simp only [h45, h43, or_self, if_false, hm, not_false_eq_true, true_and, false_and]
  rw [if_neg (by omega)]

theorem dec_free (n : Nat) : (32 : UInt8) ∉ Dig.dec (n : Int) := by
  rw [dec_nat]
  intro h
  have := digs_isD h
  revert this
  decide

/-! texts that name a node -/
def mvd : Bs := [77, 79, 86, 69, 68]
def ask : Bs := [65, 83, 75]
def redir (W : Bs) (s n : Int) : Bs := W ++ 32 :: (Dig.dec s ++ 32 :: Dig.dec n)

/-- the text names a slot and a node by a word. -/
def Sends (s : Bs) (W : Bs) (a b : Nat) : Prop := (W = mvd ∨ W = ask) ∧ a < 16384 ∧ b < 8 ∧ s = redir W a b
/-- what a text tells. -/
def ReadOf (s : Bs) (W : Bs) (a b : Int) : Prop := (∃ a' b' : Nat, a = (a' : Int) ∧ b = (b' : Int) ∧ Sends s W a' b') ∨ ((∀ W a b, ¬ Sends s W a b) ∧ W = [] ∧ a = 0 ∧ b = 0)

theorem word_free {W : Bs} (h : W = mvd ∨ W = ask) : (32 : UInt8) ∉ W := by
  rcases h with rfl | rfl <;> decide

theorem split_redir {W : Bs} (h : W = mvd ∨ W = ask) (a b : Nat) : Tags.split 32 (redir W a b) = some (W, Dig.dec (a : Int) ++ 32 :: Dig.dec (b : Int)) := Tags.split_append (word_free h)
theorem split_nums (a b : Nat) : Tags.split 32 (Dig.dec (a : Int) ++ 32 :: Dig.dec (b : Int)) = some (Dig.dec (a : Int), Dig.dec (b : Int)) := Tags.split_append (dec_free a)

theorem dec_nat_inj {a b : Nat} (ha : a < 16384) (hb : b < 16384) (h : Dig.dec (a : Int) = Dig.dec (b : Int)) : a = b := by
  have h1 := Tx.num_dec (a : Int) (by omega) (by omega)
  have h2 := Tx.num_dec (b : Int) (by omega) (by omega)
  rw [h, h2] at h1
  have := congrArg Prod.fst h1
  simp at this
  omega

theorem Sends.unique {s W W' : Bs} {a b a' b' : Nat} (h : Sends s W a b) (h' : Sends s W' a' b') : W = W' ∧ a = a' ∧ b = b' := by
  obtain ⟨h1, h2, h3, rfl⟩ := h
  obtain ⟨k1, k2, k3, he⟩ := h'
  have e := split_redir h1 a b
  rw [he, split_redir k1 a' b'] at e
  injection e with e
  injection e with e1 e2
  have e3 := split_nums a b
  rw [← e2, split_nums a' b'] at e3
  injection e3 with e3
  injection e3 with e3 e4
  exact ⟨e1.symm, (dec_nat_inj (by omega) (by omega) e3).symm, (dec_nat_inj (by omega) (by omega) e4).symm⟩

theorem ReadOf.unique {s W W' : Bs} {a b a' b' : Int} (h : ReadOf s W a b) (h' : ReadOf s W' a' b') : W = W' ∧ a = a' ∧ b = b' := by
  rcases h with ⟨x, y, rfl, rfl, h⟩ | ⟨h, rfl, rfl, rfl⟩ <;> rcases h' with ⟨x', y', rfl, rfl, h'⟩ | ⟨h', rfl, rfl, rfl⟩
  · obtain ⟨rfl, rfl, rfl⟩ := h.unique h'
    exact ⟨rfl, rfl, rfl⟩
  · exact (h' _ _ _ h).elim
  · exact (h _ _ _ h').elim
  · exact ⟨rfl, rfl, rfl⟩

/-- the second and third word of a text, as Read takes them. -/
def nums (s : Bs) : Bs := match Tags.split 32 s with
  | none => []
  | some p => p.2
def first (s : Bs) : Bs := match Tags.split 32 (nums s) with
  | none => nums s
  | some p => p.1
def second (s : Bs) : Bs := match Tags.split 32 (nums s) with
  | none => []
  | some p => p.2

theorem Sends.parts {s W : Bs} {a b : Nat} (h : Sends s W a b) : first s = Dig.dec (a : Int) ∧ second s = Dig.dec (b : Int) := by
  obtain ⟨h1, h2, h3, rfl⟩ := h
  have e : nums (redir W a b) = Dig.dec (a : Int) ++ 32 :: Dig.dec (b : Int) := by unfold nums; rw [split_redir h1]
  unfold first second
  rw [e, split_nums]
  exact ⟨rfl, rfl⟩

/-- a number below a bound, as the text tells it. -/
def Low (x : Bs) (bound : Nat) (n : Nat) : Prop := n < bound ∧ ∀ a : Nat, a < bound → x = Dig.dec (a : Int) → n = a

theorem read_case {s : Bs} {a b : Nat} (ha : Low (first s) 16384 a) (hb : Low (second s) 8 b) :
    (s = redir mvd a b → ReadOf s mvd a b) ∧ (s = redir ask a b → ReadOf s ask a b) ∧ (s ≠ redir mvd a b → s ≠ redir ask a b → ReadOf s [] 0 0) := by
  refine ⟨fun h => .inl ⟨a, b, rfl, rfl, .inl rfl, ha.1, hb.1, h⟩, fun h => .inl ⟨a, b, rfl, rfl, .inr rfl, ha.1, hb.1, h⟩, fun h1 h2 => .inr ⟨fun W x y hs => ?_, rfl, rfl, rfl⟩⟩
  obtain ⟨p1, p2⟩ := hs.parts
  have e1 := ha.2 x hs.2.1 p1
  have e2 := hb.2 y hs.2.2.1 p2
  subst e1 e2
  rcases hs.1 with rfl | rfl
  · exact h1 hs.2.2.2
  · exact h2 hs.2.2.2

/-! a text's words by blanks -/
def wds : Bs → List Bs
  | [] => [[]]
  | c :: r => if c = 32 then [] :: wds r else match wds r with
    | [] => [[c]]
    | x :: t => (c :: x) :: t

theorem wds_ne (s : Bs) : wds s ≠ [] := by
  cases s with
  | nil => simp [wds]
  | cons c r =>
    unfold wds
    split
    · simp
    · split <;> simp

theorem wds_free {x : Bs} (h : (32 : UInt8) ∉ x) : wds x = [x] := by
  induction x with
  | nil => rfl
  | cons c r ih =>
    simp only [List.mem_cons, not_or] at h
    unfold wds
    rw [if_neg (fun e => h.1 e.symm), ih h.2]

theorem wds_cut {x : Bs} (h : (32 : UInt8) ∉ x) (r : Bs) : wds (x ++ 32 :: r) = x :: wds r := by
  induction x with
  | nil => simp [wds]
  | cons c x ih =>
    simp only [List.mem_cons, not_or] at h
    show wds (c :: (x ++ 32 :: r)) = _
    conv => lhs; unfold wds
    rw [if_neg (fun e => h.1 e.symm), ih h.2]

def joinW : List Bs → Bs
  | [] => []
  | [x] => x
  | x :: y :: r => x ++ 32 :: joinW (y :: r)

theorem join_wds (s : Bs) : joinW (wds s) = s := by
  induction s with
  | nil => rfl
  | cons c r ih =>
    unfold wds
    by_cases hc : c = 32
    · subst hc
      rw [if_pos rfl]
      cases hw : wds r with
      | nil => exact absurd hw (wds_ne r)
      | cons x t =>
        rw [hw] at ih
        show [] ++ 32 :: joinW (x :: t) = _
        rw [ih]; rfl
    · rw [if_neg hc]
      cases hw : wds r with
      | nil => exact absurd hw (wds_ne r)
      | cons x t =>
        rw [hw] at ih
        show joinW ((c :: x) :: t) = _
        cases t with
        | nil => show c :: x = _; rw [← ih]; rfl
        | cons y t => rw [← ih]; rfl

theorem wds_redir {W : Bs} (h : W = mvd ∨ W = ask) (a b : Nat) : wds (redir W a b) = [W, Dig.dec (a : Int), Dig.dec (b : Int)] := by
  unfold redir
  rw [wds_cut (word_free h), wds_cut (dec_free a), wds_free (dec_free b)]

/-- as the words say it. -/
theorem ref_case {s : Bs} {ws : List Bs} (hw : wds s = ws) :
    (ws.length ≠ 3 → ReadOf s [] 0 0) ∧ (∀ x y z, ws = [x, y, z] → (x ≠ mvd → x ≠ ask → ReadOf s [] 0 0) ∧
      ((Tx.numS y).2 = false ∨ (Tx.numS z).2 = false ∨ (Tx.numS y).1 < 0 ∨ 16384 ≤ (Tx.numS y).1 ∨ (Tx.numS z).1 < 0 ∨ 8 ≤ (Tx.numS z).1 → ReadOf s [] 0 0) ∧
      ((x = mvd ∨ x = ask) → (Tx.numS y).2 = true → (Tx.numS z).2 = true → 0 ≤ (Tx.numS y).1 → (Tx.numS y).1 < 16384 → 0 ≤ (Tx.numS z).1 → (Tx.numS z).1 < 8 → ReadOf s x (Tx.numS y).1 (Tx.numS z).1)) := by
  have key : ∀ W a b, Sends s W a b → ws = [W, Dig.dec (a : Int), Dig.dec (b : Int)] := fun W a b h => by
    rw [← hw, h.2.2.2, wds_redir h.1]
  refine ⟨fun h3 => .inr ⟨fun W a b h => h3 (by rw [key W a b h]; rfl), rfl, rfl, rfl⟩, fun x y z hx => ⟨fun h1 h2 => .inr ⟨fun W a b h => ?_, rfl, rfl, rfl⟩, fun hn => .inr ⟨fun W a b h => ?_, rfl, rfl, rfl⟩, fun h1 h2 h3 h4 h5 h6 h7 => ?_⟩⟩
  · have e := key W a b h
    rw [hx] at e
    injection e with e
    rcases h.1 with rfl | rfl
    · exact h1 e
    · exact h2 e
  · have e := key W a b h
    rw [hx] at e
    injection e with e1 e2
    injection e2 with e2 e3
    injection e3 with e3 e4
    have ha := h.2.1
    have hb := h.2.2.1
    rw [e2, e3, Tx.num_dec (a : Int) (by omega) (by omega), Tx.num_dec (b : Int) (by omega) (by omega)] at hn
    simp at hn
    omega
  · have ey : Tx.numS y = ((Tx.numS y).1, true) := Prod.ext rfl h2
    have ez : Tx.numS z = ((Tx.numS z).1, true) := Prod.ext rfl h3
    have y1 := (Tx.num_is ey).1
    have z1 := (Tx.num_is ez).1
    obtain ⟨p, hp⟩ := Int.eq_ofNat_of_zero_le h4
    obtain ⟨q, hq⟩ := Int.eq_ofNat_of_zero_le h6
    refine .inl ⟨p, q, hp, hq, h1, by omega, by omega, ?_⟩
    rw [← join_wds s, hw, hx]
    show x ++ 32 :: (y ++ 32 :: z) = x ++ 32 :: (Dig.dec (p : Int) ++ 32 :: Dig.dec (q : Int))
    rw [← hp, ← hq, ← y1, ← z1]

/-! a slot that moves -/
structure Mv where
  s : Int
  t : Int
  n : Int
  k : Bs
def Mv.zero : Mv := ⟨0, 0, 0, []⟩
def again : Bs := [84, 82, 89, 65, 71, 65, 73, 78]
def cross : Bs := [67, 82, 79, 83, 83, 83, 76, 79, 84]
def down : Bs := [67, 76, 85, 83, 84, 69, 82, 68, 79, 87, 78]

def locked (m : Mv) (k : Bs) : Bool := decide (0 < m.n) && decide (k = m.k)
def movingS (has : Bs → Bool) (m : Mv) (ks : List Bs) : Bs :=
  if ks.any (locked m) then again else if ks.all has then [] else if ks.all (fun k => !has k) then redir ask m.s m.t else again

/-- what a node is, as far as it decides. -/
structure Nd where
  id : Int
  ms : Int
  cl : List Ow.C
  has : Bs → Bool
  mv : List Mv
def ownerS (n : Nd) (x : Int) (ks : List Bs) : Bs :=
  match n.mv.find? (fun m => decide (m.s = x)) with
  | none => []
  | some m => movingS n.has m ks
def decideS (n : Nd) (ks : List Bs) (asking : Bool) : Bs :=
  if ks = [] then [] else
  if one ks < 0 then cross else
  match Ow.own n.cl (one ks) with
  | none => down
  | some o =>
    if n.ms = -1 ∧ o.1 = n.id then ownerS n (one ks) ks
    else if n.ms = -1 ∧ asking = true then [] else redir mvd (one ks) o.1
end Rt
end Go.Proofs.YtahmddopbmjepaaDoor
