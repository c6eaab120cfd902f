/- The contract of the laws' Make, and what is told of what it makes. -/
import Derived.Test.YtcjbfgkmpoebgaaDoorRpMakeArr
import Derived.Lib.IndexAny
namespace Go.Proofs.YtcjbfgkmpoebgaaDoor
open Go.RowKit Go.Shelf
attribute [local go_sem] Oper.semAt_some
set_option linter.unusedVariables false
set_option linter.unusedSimpArgs false

set_option maxRecDepth 100000 in
set_option maxHeartbeats 8000000 in
theorem make_nil (a : Option Addr) (cap : Nat) (s : List UInt8) (w : World) : Calls Tryd.prog 20 #[.slice a 0 cap, .string ⟨s.toArray⟩] w (MkOut w (.mk 5 [] 0 [])) := by
  obtain ⟨w1, hw1⟩ : ∃ w1, w.alloc (.cells #[.int .i64 0, .string ⟨#[]⟩, .int .i64 0, .slice none 0 0] 24) = w1 := ⟨_, rfl⟩
  have hx1 := World.alloc_heap_new w (.cells #[.int .i64 0, .string ⟨#[]⟩, .int .i64 0, .slice none 0 0] 24)
  have hb1 := (Below.refl w.heap.size w).alloc (Nat.le_refl _) (.cells #[.int .i64 0, .string ⟨#[]⟩, .int .i64 0, .slice none 0 0] 24)
  rw [hw1] at hx1 hb1
  obtain ⟨b0, b1, b2, b3, f0, f1, f2, f3⟩ := cells_four' hx1
  have HW1 := Lib.hid hw1
  have HB := Lib.hid hb1
  have HX := Lib.hid hx1
  clear hw1 hb1 hx1
  go_enter Tryd.func20, Tryd.ntmps20
  go_upto_region 1 with (fail)
  rw [show w.alloc (.cells #[.int .i64 0, .string ⟨#[]⟩, .int .i64 0, .slice none 0 0] 24) = w1 from HW1.out]
  clear HW1
  go_wp2
  refine bodyPost_ret (results_cell (T := 24) (p := ⟨w.heap.size, 0, none⟩) rfl rfl (loadVar24' _ _ (heap_four HX.out (.int .i64 5) (.string ⟨#[]⟩) (.int .i64 0) (.slice none 0 0)))) rfl ?_
  exact mk_out (s := []) HB.out rfl (by unfold Fit; simp)

theorem mkF_nil (f : Nat) (s : List UInt8) : Rp.mkF f [] s = .mk 5 [] 0 [] := by cases f <;> rfl

theorem make_any (s : List UInt8) (hs : s.length ≤ 1000) : ∀ (f : Nat) (ns : List UInt8) (a : Option Addr) (cap : Nat) (w : World), ns.length ≤ f → ns.length ≤ 1000 → Bt (fun _ => True) w a cap ns →
    Calls Tryd.prog 20 #[.slice a ns.length cap, .string ⟨s.toArray⟩] w (MkOut w (Rp.mkF f ns s)) := by
  intro f
  induction f with
  | zero =>
    intro ns a cap w h1 h2 hb
    obtain rfl : ns = [] := List.eq_nil_of_length_eq_zero (by omega)
    rw [mkF_nil]
    exact make_nil a cap s w
  | succ f ih =>
    intro ns a cap w h1 h2 hb
    cases ns with
    | nil =>
      rw [mkF_nil]
      exact make_nil a cap s w
    | cons b t =>
      by_cases h4 : b.toNat % 6 = 4
      · exact make_arr f b t a cap s w h2 hs hb h4 fun ns a cap W hl hb' => ih ns a cap W (by simp at h1; omega) (by simp at h2; omega) hb'
      · exact make_flat f b t a cap s w h2 hs hb h4

/-- strings.ContainsAny of a text of plain ASCII bytes. -/
theorem ca_plain {s : List UInt8} (h : ∀ c ∈ s, c.toNat < 128 ∧ c ≠ 13 ∧ c ≠ 10) : CA s := by
  intro hl W
  have hz : (⟨s.toArray⟩ : ByteArray).size = s.length := by show s.toArray.size = _; simp
  have hp : Rp.plainB s = true := by
    unfold Rp.plainB
    rw [List.all_eq_true]
    intro c hc
    obtain ⟨_, h1, h2⟩ := h c hc
    simp [h1, h2]
  have hc := Tryd.strings_ContainsAny_laid ⟨s.toArray⟩ ⟨#[13, 10]⟩ W (by rw [hz]; omega) (by decide) (fun j b hb => (h b (List.mem_of_getElem? (by simpa using hb))).1) (fun j b hb => by
    match j, hb with
    | 0, hb => simp at hb; subst hb; decide
    | 1, hb => simp at hb; subst hb; decide
    | j + 2, hb => simp at hb)
  have hn : Lib.containsAny s [13, 10] = false := by
    unfold Lib.containsAny
    rw [Lib.indexAny_none fun j b hj hb => by
      obtain ⟨_, h1, h2⟩ := h b (List.mem_of_getElem? hb)
      simp [h1, h2]]
    rfl
  refine hc.mono ?_
  rintro e W' ⟨rfl, hb⟩
  refine ⟨?_, hb⟩
  rw [hp]
  show Ending.returned (.bool (Lib.containsAny s [13, 10])) = _
  rw [hn]
  rfl

namespace Rp
theorem headsL_mem {lev : Nat} : ∀ {l : List R} {p : H × Nat}, p ∈ headsL lev l → ∃ r ∈ l, p ∈ heads lev r
  | [], p, h => by simp [headsL] at h
  | r :: l, p, h => by
    rw [headsL] at h
    rcases List.mem_append.1 h with h | h
    · exact ⟨r, by simp, h⟩
    · obtain ⟨r', h1, h2⟩ := headsL_mem h
      exact ⟨r', by simp [h1], h2⟩

theorem headsL_sum (lev m : Nat) (g : Nat → R) : ∀ M, M ≤ m → (∀ i, i < M → (heads lev (g i)).length ≤ 2 ^ (m - i)) → (headsL lev ((List.range M).map g)).length + 2 ^ (m + 1 - M) ≤ 2 ^ (m + 1)
  | 0, _, _ => by simp [headsL]
  | M + 1, hM, h => by
    have ih := headsL_sum lev m g M (by omega) fun i hi => h i (by omega)
    have h1 := h M (by omega)
    rw [List.range_succ, List.map_append, headsL_append, List.length_append]
    have e : (headsL lev [g M]).length = (heads lev (g M)).length := by simp [headsL]
    rw [show [M].map g = [g M] from rfl, e]
    have e2 : 2 ^ (m + 1 - M) = 2 ^ (m - M) + 2 ^ (m - M) := by rw [show m + 1 - M = (m - M) + 1 by omega, Nat.pow_succ]; omega
    rw [show m + 1 - (M + 1) = m - M by omega]
    omega

theorem headsL_few (lev B : Nat) : ∀ (l : List R), (∀ r ∈ l, (heads lev r).length ≤ B) → (headsL lev l).length ≤ l.length * B
  | [], _ => by simp [headsL]
  | r :: l, h => by
    have ih := headsL_few lev B l fun x hx => h x (by simp [hx])
    have h1 := h r (by simp)
    rw [headsL, List.length_append, List.length_cons, Nat.add_mul]
    omega

/-- a part of what Make makes. -/
def HP (p : H × Nat) : Prop := okB p = true ∧ NumOk p.1 ∧ p.1.s.length ≤ 100 ∧ CAQ p.1

theorem dec_ascii {X : Int} (h0 : 0 ≤ X) (h1 : X ≤ 255) : ∀ c ∈ (69 : UInt8) :: Dig.dec X, c.toNat < 128 ∧ c ≠ 13 ∧ c ≠ 10 := by
  intro c hc
  rcases List.mem_cons.1 hc with rfl | hc
  · decide
  · have hd : Tx.isD c = true := by
      unfold Dig.dec at hc
      rw [if_neg (by omega)] at hc
      exact digs_isD hc
    unfold Tx.isD at hd
    simp only [Bool.and_eq_true, decide_eq_true_eq] at hd
    exact ⟨by omega, by rintro rfl; have := hd.1; revert this; decide, by rintro rfl; have := hd.1; revert this; decide⟩

theorem mk_text {X : Int} (h0 : 0 ≤ X) (h1 : X ≤ 255) {k : Int} (hk : k = 1 ∨ k = 2) (lev : Nat) : HP (⟨k, 69 :: Dig.dec X, 0, 0⟩, lev) := by
  have hl := dec_len20 (n := X) (by omega) (by omega)
  have ha := dec_ascii h0 h1
  have hp : plainB (69 :: Dig.dec X) = true := by
    unfold plainB
    rw [List.all_eq_true]
    intro c hc
    obtain ⟨_, h1, h2⟩ := ha c hc
    simp [h1, h2]
  refine ⟨?_, by unfold NumOk; simp, by simp; omega, fun _ => ca_plain ha⟩
  have hl2 : (69 :: Dig.dec X).length ≤ 512 := by simp; omega
  unfold okB fitsB
  rcases hk with rfl | rfl <;> simp [hp] <;> omega

theorem mk_flatH {f : Nat} {b : UInt8} {t s : List UInt8} (hs : s.length ≤ 100) (hn : b.toNat % 6 ≠ 4) (lev : Nat) : (heads lev (mkF (f + 1) (b :: t) s)).length = 1 ∧ ∀ p ∈ heads lev (mkF (f + 1) (b :: t) s), HP p := by
  have hx255 : (b.toNat : Int) ≤ 255 := by have := b.toNat_lt; omega
  have hx0 : (0 : Int) ≤ (b.toNat : Int) := by omega
  obtain ⟨r5, r0, r1, r2, r3, -⟩ := mkF_at (f := f) (b := b) (t := t) (s := s) rfl
  have key : ∀ k (s' : List UInt8) n, mkF (f + 1) (b :: t) s = .mk k s' n [] → HP (⟨k, s', n, 0⟩, lev) → (heads lev (mkF (f + 1) (b :: t) s)).length = 1 ∧ ∀ p ∈ heads lev (mkF (f + 1) (b :: t) s), HP p := by
    intro k s' n e h
    rw [e]
    refine ⟨by simp [heads, headsL], fun p hp => ?_⟩
    simp [heads, headsL] at hp
    rw [hp]
    exact h
  have hcase : (b.toNat : Int) % 6 = 5 ∨ (b.toNat : Int) % 6 = 0 ∨ (b.toNat : Int) % 6 = 1 ∨ (b.toNat : Int) % 6 = 2 ∨ (b.toNat : Int) % 6 = 3 := by omega
  rcases hcase with h | h | h | h | h
  · exact key _ _ _ (r5 h) ⟨rfl, by unfold NumOk; simp, by simp, fun hk => by rcases hk with hk | hk <;> cases hk⟩
  · exact key _ _ _ (r0 h) (mk_text hx0 hx255 (.inl rfl) lev)
  · exact key _ _ _ (r1 h) (mk_text hx0 hx255 (.inr rfl) lev)
  · have := mk_num hx0 hx255
    exact key _ _ _ (r2 h) ⟨by simp [okB, fitsB], ⟨this.1, this.2.1⟩, by simp, fun hk => by rcases hk with hk | hk <;> cases hk⟩
  · refine key _ _ _ (r3 h) ⟨?_, by unfold NumOk; simp, by simp; omega, fun hk => by rcases hk with hk | hk <;> cases hk⟩
    have hl2 : (s.take ((b.toNat : Int) / 6).toNat).length ≤ 1048576 := by rw [List.length_take]; omega
    unfold okB fitsB
    simp only [decide_eq_true hl2]
    rfl

theorem nil_H {lev : Nat} : (heads lev (.mk 5 [] 0 [])).length = 1 ∧ ∀ p ∈ heads lev (.mk 5 [] 0 []), HP p := by
  refine ⟨by simp [heads, headsL], fun p hp => ?_⟩
  simp [heads, headsL] at hp
  subst hp
  exact ⟨rfl, by unfold NumOk; simp, by simp, fun hk => by rcases hk with hk | hk <;> cases hk⟩

theorem mk_heads {s : List UInt8} (hs : s.length ≤ 100) : ∀ (f n : Nat) (ns : List UInt8) (lev : Nat), ns.length ≤ n → lev + n ≤ 8 → (heads lev (mkF f ns s)).length ≤ 2 ^ n ∧ ∀ p ∈ heads lev (mkF f ns s), HP p := by
  intro f
  induction f with
  | zero =>
    intro n ns lev h1 h2
    have := nil_H (lev := lev)
    have hp := Nat.one_le_two_pow (n := n)
    exact ⟨by rw [mkF]; omega, by rw [mkF]; exact this.2⟩
  | succ f ih =>
    intro n ns lev h1 h2
    have hp := Nat.one_le_two_pow (n := n)
    cases ns with
    | nil =>
      have := nil_H (lev := lev)
      rw [mkF_nil]
      exact ⟨by omega, this.2⟩
    | cons b t =>
      by_cases h4 : b.toNat % 6 = 4
      · have hR := (mkF_at (f := f) (b := b) (t := t) (s := s) rfl).2.2.2.2.2 (by omega)
        rw [hR]
        simp only [List.length_cons] at h1
        have hch := fun i => ih (t.length - i) ((t.drop i).take (b.toNat / 30 % 4 + 1)) (lev + 1) (by simp; omega) (by omega)
        refine ⟨?_, fun p hp => ?_⟩
        · rw [heads, List.length_cons]
          have := headsL_sum (lev + 1) t.length (fun i => mkF f ((t.drop i).take (b.toNat / 30 % 4 + 1)) s) (min (b.toNat / 6 % 5) t.length) (by omega) fun i _ => (hch i).1
          have h3 := Nat.one_le_two_pow (n := t.length + 1 - min (b.toNat / 6 % 5) t.length)
          have h5 : 2 ^ (t.length + 1) ≤ 2 ^ n := Nat.pow_le_pow_right (by omega) h1
          omega
        · rw [heads] at hp
          rcases List.mem_cons.1 hp with rfl | hp
          · refine ⟨?_, by unfold NumOk; simp, by simp, fun hk => by rcases hk with hk | hk <;> cases hk⟩
            have h6 : min (b.toNat / 6 % 5) t.length ≤ 65536 := by omega
            simp [okB, fitsB]
            omega
          · obtain ⟨r, hr, hp⟩ := headsL_mem hp
            obtain ⟨i, _, rfl⟩ := List.mem_map.1 hr
            exact (hch i).2 p hp
      · have := mk_flatH (f := f) (t := t) hs h4 lev
        exact ⟨by omega, this.2⟩

/-- .. of numbers, as many as there are. -/
theorem mk_top {s : List UInt8} (hs : s.length ≤ 100) (f : Nat) (ns : List UInt8) : (heads 0 (mkF f ns s)).length ≤ 65 ∧ ∀ p ∈ heads 0 (mkF f ns s), HP p := by
  cases f with
  | zero => have := nil_H (lev := 0); exact ⟨by rw [mkF]; omega, by rw [mkF]; exact this.2⟩
  | succ f =>
    cases ns with
    | nil => have := nil_H (lev := 0); rw [mkF_nil]; exact ⟨by omega, this.2⟩
    | cons b t =>
      by_cases h4 : b.toNat % 6 = 4
      · have hR := (mkF_at (f := f) (b := b) (t := t) (s := s) rfl).2.2.2.2.2 (by omega)
        rw [hR]
        have hch := fun i => mk_heads hs f 4 ((t.drop i).take (b.toNat / 30 % 4 + 1)) 1 (by simp; omega) (by omega)
        refine ⟨?_, fun p hp => ?_⟩
        · rw [heads, List.length_cons]
          have := headsL_few 1 16 ((List.range (min (b.toNat / 6 % 5) t.length)).map fun i => mkF f ((t.drop i).take (b.toNat / 30 % 4 + 1)) s) (fun r hr => by
            obtain ⟨i, _, rfl⟩ := List.mem_map.1 hr
            exact (hch i).1)
          simp only [List.length_map, List.length_range] at this
          rw [Nat.zero_add]
          omega
        · rw [heads] at hp
          rcases List.mem_cons.1 hp with rfl | hp
          · refine ⟨?_, by unfold NumOk; simp, by simp, fun hk => by rcases hk with hk | hk <;> cases hk⟩
            simp [okB, fitsB]
            omega
          · obtain ⟨r, hr, hp⟩ := headsL_mem hp
            obtain ⟨i, _, rfl⟩ := List.mem_map.1 hr
            exact (hch i).2 p hp
      · have := mk_flatH (f := f) (t := t) hs h4 0
        exact ⟨by omega, this.2⟩
end Rp

theorem own_short {h : Rp.H} (hn : Rp.NumOk h) (hm : (h.m : Int) ≤ 9223372036854775807) (hs : h.s.length ≤ 100) : (Rp.own h).length ≤ 200 := by
  unfold Rp.NumOk at hn
  unfold Rp.own
  have h1 := dec_len20 (n := h.n) hn.1 hn.2
  have h2 := dec_len20 (n := h.s.length) (by omega) (by omega)
  have h3 := dec_len20 (n := h.m) (by omega) (by omega)
  have h4 := dec_len20 (n := -1) (by omega) (by omega)
  rw [List.length_append]
  have h5 : Rp.crlf.length = 2 := rfl
  repeat' split
  all_goals simp only [List.length_cons, List.length_append, List.length_nil]
  all_goals omega
end Go.Proofs.YtcjbfgkmpoebgaaDoor
