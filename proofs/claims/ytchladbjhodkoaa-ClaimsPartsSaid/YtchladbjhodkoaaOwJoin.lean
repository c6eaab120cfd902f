/- The contracts of claims.Join, claims.Give. -/
import Derived.Test.YtchladbjhodkoaaOwChosen
import Derived.Test.YtchladbjhodkoaaCollect
namespace Go.Proofs.Ytchladbjhodkoaa
open Go.RowKit Go.Shelf
attribute [local go_sem] Oper.semAt_some

/-- what is handed back: the valid list that tells of each slot what g says, in memory that is new. -/
def OwOut (g : Int → Option Ow.O) (w : World) (e : Ending) (w' : World) : Prop :=
  ∃ a cap l, e = .returned (.slice a l.length cap) ∧ Ow.Told g l 16384 ∧ Cls w' a cap l ∧ Below w.heap.size w w'

set_option maxHeartbeats 1000000 in
theorem join_any (a1 a2 : Option Addr) (cap1 cap2 : Nat) (la lb : List Ow.C) (w : World) (hva : Ow.VL la) (hvb : Ow.VL lb) (hA : Cls w a1 cap1 la) (hB : Cls w a2 cap2 lb) :
    Calls Try.prog 15 #[.slice a1 la.length cap1, .slice a2 lb.length cap2] w (OwOut (fun k => Ow.joinO (Ow.own la k) (Ow.own lb k)) w) := by
  refine (callsIn_wide (n := 0)).1 ?_
  have HC := Lib.hid (chosen_any 36 Ow.joinO pick_join Ow.okW_join (enters_of Try.func36 (by kernel_rfl) rfl) a1 a2 cap1 cap2 la lb w hva hvb hA hB)
  clear hA hB hva hvb
  refine callsIn_of_wp Try.func15 rfl trivial ?_ rfl
  simp only [Try.ntmps15, List.size_toArray, List.length_cons, List.length_nil, Nat.reduceAdd, Nat.reduceSub, Array.replicate_succ, Array.replicate_zero, List.push_toArray, List.append_toArray, List.nil_append, List.cons_append]
  gi_wp2_with (refine ⟨trivial, rfl, ?_⟩; refine HC.out.mono ?_; rintro e w4 ⟨v, xs, rfl, hp, hrow, hb⟩; have HR := Lib.hid (And.intro hp (And.intro hrow hb)); clear hp hrow hb)
  go_ret
  obtain ⟨hp, hrow, hb⟩ := HR.out
  have ht := Ow.PC.chosen Ow.okW_join hp
  obtain ⟨a, cap, rfl, hc, -⟩ := cls_of_row hrow (Ow.fit_all ht.1)
  exact ⟨a, cap, _, rfl, ht, hc, hb⟩

/-- claims by which a node has the slots of spans. -/
def heldL (l : List Sp.S) (n e : Int) : List Ow.C := l.map fun s => ⟨s.1, s.2, n, e⟩

theorem held_vl {n e : Int} (hn : 0 ≤ n ∧ n < 8 ∧ 1 ≤ e ∧ e ≤ 9007199254740992) : ∀ {l : List Sp.S}, Sp.Valid l → Ow.VL (heldL l n e)
  | [], _ => trivial
  | [s], h => by
    have := h.1 s (by simp)
    show Ow.okC _
    unfold Ow.okC
    simp only
    omega
  | s :: t :: r, h => by
    have hs := h.1 s (by simp)
    have ht := (List.pairwise_cons.1 h.2).1 t (by simp)
    refine ⟨by unfold Ow.okC; simp only; omega, by simp only; omega, ?_, held_vl (l := t :: r) hn ⟨fun u hu => h.1 u (by simp [hu]), (List.pairwise_cons.1 h.2).2⟩⟩
    rw [Bool.eq_false_iff]
    intro hc
    have := (Ow.touch_iff.1 hc).1
    simp only at this
    omega

theorem held_own {n e : Int} {k : Int} (h0 : 0 ≤ k) (h1 : k < 16384) : ∀ {l : List Sp.S}, Ow.own (heldL l n e) k = if Sp.hasB l k then some (n, e) else none
  | [] => by simp [heldL, Ow.own, Sp.hasB]
  | s :: r => by
    have ih := held_own (n := n) (e := e) h0 h1 (l := r)
    have e1 : heldL (s :: r) n e = ⟨s.1, s.2, n, e⟩ :: heldL r n e := rfl
    have e2 : Sp.hasB (s :: r) k = (Sp.inB k s || Sp.hasB r k) := rfl
    rw [e1, e2]
    simp only [Ow.own]
    rw [ih]
    by_cases hk : s.1 ≤ k ∧ k ≤ s.2
    · have a1 : Ow.inC k ⟨s.1, s.2, n, e⟩ = true := Ow.inC_iff.2 hk
      have a2 : Sp.inB k s = true := by simp [Sp.inB, h0, h1, hk]
      simp [a1, a2]
    · have a1 : ¬ Ow.inC k ⟨s.1, s.2, n, e⟩ = true := fun h => hk (Ow.inC_iff.1 h)
      have a2 : Sp.inB k s = false := by
        rw [Bool.eq_false_iff]
        intro h
        simp [Sp.inB] at h
        exact hk ⟨h.1.2, h.2⟩
      simp [a1, a2]

theorem heldL_snoc {l : List Sp.S} {k : Nat} (hk : k < l.length) (n e : Int) : heldL (l.take (k + 1)) n e = heldL (l.take k) n e ++ [⟨(l.getD k (0, 0)).1, (l.getD k (0, 0)).2, n, e⟩] := by
  rw [List.take_succ_eq_append_getElem hk]
  have : l.getD k (0, 0) = l[k] := by simp [List.getD, hk]
  rw [this]
  unfold heldL
  rw [List.map_append]
  rfl

/-- whoever has a slot, but that the slots of spans are a node's. -/
def giveF (l : List Ow.C) (s : List Sp.S) (n e : Int) (k : Int) : Option Ow.O := if Sp.hasB s k then some (n, e) else Ow.own l k

set_option maxRecDepth 100000 in
set_option maxHeartbeats 4000000 in
theorem held_any (a : Option Addr) (cap : Nat) (l : List Sp.S) (n e : Int) (w : World) (hl : l.length ≤ 100000) (hS : Spans w a cap l) :
    Calls Try.prog 44 #[.slice a l.length cap, .int .i64 n, .int .i64 e] w fun en w' => ∃ v, en = .returned v ∧ w'.ownsRow w.heap.size 49 4 v (heldL (Sp.mixS 0 l []) n e).length (flat4 (heldL (Sp.mixS 0 l []) n e)) ∧ Below w.heap.size w w' := by
  obtain ⟨i0, hi, hz0, hz1, hz2⟩ := info_parts infoClaim
  have HN := Lib.hid (norm_own a cap l w hl hS)
  have hml := mixS_len 0 l [] (by simpa using hl)
  obtain ⟨m, hm⟩ : ∃ m, Sp.mixS 0 l [] = m := ⟨_, rfl⟩
  rw [hm] at HN hml ⊢
  clear hS hm
  go_enter Try.func44, Try.ntmps44
  go_wp2_with (go_at_call 41; refine HN.out.mono ?_; rintro en w1 ⟨a', cap', rfl, hs, -, hc, hb⟩; have HS := Lib.hid hs; have HB := Lib.hid hb; clear hs hb)
  have hlen : m.length ≤ cap' := HS.out.1
  go_loopw [7, 13] (fun v i wr => ∃ (k : Nat) (sv : Value), k ≤ m.length ∧ i = .int .i64 k ∧ sv = v ∧ Hid (wr.ownsRow w1.heap.size 49 4 sv (heldL (m.take k) n e).length (flat4 (heldL (m.take k) n e))) ∧ Hid (Below w1.heap.size w1 wr)) (fun _ i _ => m.length - (intOf i).toNat)
  case atStart => exact ⟨0, _, Nat.zero_le _, rfl, rfl, Lib.hid (World.ownsRow_nil _ _ _ _), Lib.hid (Below.refl _ _)⟩
  case round =>
    obtain ⟨k, sv, hk, rfl, rfl, HR, HW⟩ := hrel
    by_cases hlt : k < m.length
    · have hsn := heldL_snoc hlt n e
      obtain ⟨b, off, hab, hbl, c1, c2⟩ := (HS.out.later HW.out).cells hlt
      have hrg := HS.out.range hlt
      subst hab
      generalize m.getD k (0, 0) = s at c1 c2 hsn hrg
      obtain ⟨x, y⟩ := s
      simp only at c1 c2 hsn hrg
      have HSN := Lib.hid hsn
      have hkl : (heldL (m.take k) n e).length = k := by simp [heldL]; omega
      have hsz := HW.out.size
      clear hsn
      have HR2 : Hid (wr.ownsRow w1.heap.size 49 4 sv k (flat4 (heldL (m.take k) n e))) := Lib.hid (by have := HR.out; rwa [hkl] at this)
      have HKL := Lib.hid hkl
      clear HR hkl
      go_wp2_with (at_builtin; refine wpList_append_own _ rfl (.tmp 17) (.tmp 25) 22 rfl w1.heap.size 49 i0 (.agg #[.int .i64 0, .int .i64 0, .int .i64 0, .int .i64 0]) 4 32 Try.underlying22 hi hz0 hz1 hz2 rfl (by decide) _ _ _ rfl ((HR2.out.alloc _).alloc _) ⟨wr.heap.size + 1, 0, none⟩ 1 1 [.int .i64 x, .int .i64 y, .int .i64 n, .int .i64 e] rfl rfl ?c1 ?c2 ?c3 ?c4 ?c5 ?_)
      case c1 => exact quad_news _ _ (by simp) _ _ _ _ _
      case c2 => intro u hu; simp at hu; rcases hu with rfl | rfl | rfl | rfl <;> rfl
      case c3 => unfold maxLen; omega
      case c4 => omega
      case c5 => simp; omega
      intro v' w2 hown1 hgrow _
      have HF : Hid (w2.ownsRow w1.heap.size 49 4 v' (heldL (m.take (k + 1)) n e).length (flat4 (heldL (m.take (k + 1)) n e)) ∧ Below w1.heap.size w1 w2) := Lib.hid (by
        refine ⟨?_, (HW.out.trans ((((Below.refl _ wr).alloc (Nat.le_refl _) _).alloc (by simp) _).mono hsz)).grown hgrow (by have := hsz; simp; omega) fun j hj => (HR2.out.lt j hj).1⟩
        rw [HSN.out, flat4_snoc, List.length_append, HKL.out]
        exact hown1)
      clear hown1 hgrow
      go_wp2
      go_roundw
      case rel => exact ⟨k + 1, _, by omega, by go_num, rfl, Lib.hid HF.out.1, Lib.hid HF.out.2⟩
      case measure => simp [intOf]; omega
    · have hall : m.take k = m := List.take_of_length_le (by omega)
      rw [hall] at HR
      go_wp2
      go_ret
      exact ⟨_, rfl, owns_base HR.out HB.out.size, HB.out.trans (HW.out.mono HB.out.size)⟩

set_option maxHeartbeats 1000000 in
theorem give_any (a1 a2 : Option Addr) (cap1 cap2 : Nat) (la : List Ow.C) (s : List Sp.S) (n e : Int) (w : World) (hn : 0 ≤ n ∧ n < 8 ∧ 1 ≤ e ∧ e ≤ 9007199254740992) (hva : Ow.VL la) (hl : s.length ≤ 100000) (hA : Cls w a1 cap1 la) (hS : Spans w a2 cap2 s) :
    Calls Try.prog 23 #[.slice a1 la.length cap1, .slice a2 s.length cap2, .int .i64 n, .int .i64 e] w (OwOut (giveF la s n e) w) := by
  refine (callsIn_wide (n := 0)).1 ?_
  have HH := Lib.hid (held_any a2 cap2 s n e w hl hS)
  have hm := Sp.mixS_spec 0 s []
  have hvb : Ow.VL (heldL (Sp.mixS 0 s []) n e) := held_vl hn hm.1
  have HC := Lib.hid (fun w1 a3 cap3 h1 h2 => chosen_any 45 Ow.giveO pick_give Ow.okW_give (enters_of Try.func45 (by kernel_rfl) rfl) a1 a3 cap1 cap3 la (heldL (Sp.mixS 0 s []) n e) w1 hva hvb h1 h2)
  have HF := Lib.hid (Ow.fit_all hvb)
  have HA := Lib.hid hA
  have HG : Hid (∀ k, 0 ≤ k → k < 16384 → Ow.giveO (Ow.own la k) (Ow.own (heldL (Sp.mixS 0 s []) n e) k) = giveF la s n e k) := Lib.hid fun k h0 h1 => by
    rw [held_own h0 h1, hm.2, giveF]
    have : (Sp.cnd 0 (Sp.hasB s k) (Sp.hasB [] k)) = Sp.hasB s k := by simp [Sp.cnd, Sp.hasB]
    rw [this]
    simp only [h0, h1, and_self, decide_true, Bool.true_and]
    split <;> rfl
  clear hA hS hva hvb hm
  generalize heldL (Sp.mixS 0 s []) n e = hl0 at *
  refine callsIn_of_wp Try.func23 rfl trivial ?_ rfl
  simp only [Try.ntmps23, List.size_toArray, List.length_cons, List.length_nil, Nat.reduceAdd, Nat.reduceSub, Array.replicate_succ, Array.replicate_zero, List.push_toArray, List.append_toArray, List.nil_append, List.cons_append]
  gi_wp2_with (refine ⟨trivial, rfl, ?_⟩; refine (callsIn_wide.2 HH.out).mono ?_; rintro en w1 ⟨v, rfl, hrow, hb⟩; obtain ⟨a3, cap3, rfl, hc, -⟩ := cls_of_row hrow HF.out; have HC3 := Lib.hid hc; have HB1 := Lib.hid hb; clear hrow hc hb)
  gi_wp2_with (refine ⟨trivial, rfl, ?_⟩; refine (HC.out _ _ _ (HA.out.later HB1.out) HC3.out).mono ?_; rintro en w4 ⟨v, xs, rfl, hp, hrow, hb⟩; have HR := Lib.hid (And.intro hp (And.intro hrow hb)); clear hp hrow hb)
  go_ret
  obtain ⟨hp, hrow, hb⟩ := HR.out
  have ht := Ow.PC.chosen Ow.okW_give hp
  obtain ⟨a, cap, rfl, hc, -⟩ := cls_of_row hrow (Ow.fit_all ht.1)
  exact ⟨a, cap, _, rfl, ⟨ht.1, ht.2.1, fun k h0 h1 => (ht.2.2 k h0 h1).trans (HG.out k h0 h1)⟩, hc, HB1.out.trans (hb.mono HB1.out.size)⟩
end Go.Proofs.Ytchladbjhodkoaa
