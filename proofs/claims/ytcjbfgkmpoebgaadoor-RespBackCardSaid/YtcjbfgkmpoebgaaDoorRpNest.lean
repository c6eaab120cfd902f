/- Arrays within arrays, and their beginnings. -/
import Derived.Test.YtcjbfgkmpoebgaaDoorRpMakeAny
namespace Go.Proofs.YtcjbfgkmpoebgaaDoor
open Go.RowKit Go.Shelf
set_option linter.unusedVariables false
set_option linter.unusedSimpArgs false

namespace Rp
/-- so many times the beginning of an array of one. -/
def stars : Nat → List UInt8
  | 0 => []
  | k + 1 => stars k ++ [42, 49, 13, 10]
theorem stars_front : ∀ k, stars (k + 1) = 42 :: 49 :: 13 :: 10 :: stars k
  | 0 => rfl
  | k + 1 => by
    show stars (k + 1) ++ [42, 49, 13, 10] = 42 :: 49 :: 13 :: 10 :: (stars k ++ [42, 49, 13, 10])
    rw [stars_front k]
    rfl
theorem stars_len : ∀ k, (stars k).length = 4 * k
  | 0 => rfl
  | k + 1 => by rw [stars, List.length_append, stars_len k]; simp; omega

theorem star_err (d : Nat) (t : List UInt8) {c : Int} (h : replyD d t = .err c) : replyD (d + 1) (42 :: 49 :: 13 :: 10 :: t) = .err c := by
  have h1 : devP 0 65536 (49 :: 13 :: 10 :: t) = .ok 1 t := by
    have := devP_ok (lo := 0) (hi := 65536) (n := 1) (by decide) (by decide) (by decide) (by decide) t
    rw [dec_one] at this
    exact this
  rw [replyD, markD]
  rw [if_neg (by decide), if_neg (by decide), if_neg (by decide), if_neg (by decide), if_pos rfl]
  unfold arrD
  rw [h1]
  show (manyP (replyD d) 1 t).map _ = _
  rw [manyP, h]
  rfl

theorem stars_err : ∀ d k, (k ≤ d → replyD d (stars k) = .err 6) ∧ (d < k → replyD d (stars k) = .err 5)
  | 0, 0 => ⟨fun _ => by rw [stars, replyD, markD], fun h => by omega⟩
  | 0, k + 1 => ⟨fun h => by omega, fun _ => by
      rw [stars_front, replyD, markD]
      rw [if_neg (by decide), if_neg (by decide), if_neg (by decide), if_neg (by decide), if_pos rfl]⟩
  | d + 1, 0 => ⟨fun _ => by rw [stars, replyD, markD], fun h => by omega⟩
  | d + 1, k + 1 => ⟨fun h => by rw [stars_front]; exact star_err d _ ((stars_err d k).1 (by omega)), fun h => by rw [stars_front]; exact star_err d _ ((stars_err d k).2 (by omega))⟩

/-- a reply in so many arrays. -/
def nest : Nat → R → R
  | 0, r => r
  | k + 1, r => .mk 6 [] 0 [nest k r]
theorem nest_heads (lev k : Nat) (r : R) : heads lev (nest (k + 1) r) = (⟨6, [], 0, 1⟩, lev) :: heads (lev + 1) (nest k r) := by
  rw [nest, heads, headsL, headsL, List.append_nil]
  rfl
theorem nest_len {r : R} (h : ∀ lev, (heads lev r).length = 1) : ∀ k lev, (heads lev (nest k r)).length = k + 1
  | 0, lev => by rw [nest, h]
  | k + 1, lev => by rw [nest_heads, List.length_cons, nest_len h k]
theorem nest_part {r : R} (h : ∀ lev, ∀ p ∈ heads lev r, HP p) : ∀ k lev, ∀ p ∈ heads lev (nest k r), NumOk p.1 ∧ p.1.s.length ≤ 100 ∧ CAQ p.1 ∧ (lev + k ≤ 8 → okB p = true)
  | 0, lev, p, hp => by
    rw [nest] at hp
    have := h lev p hp
    exact ⟨this.2.1, this.2.2.1, this.2.2.2, fun _ => this.1⟩
  | k + 1, lev, p, hp => by
    rw [nest_heads] at hp
    rcases List.mem_cons.1 hp with rfl | hp
    · refine ⟨by unfold NumOk; simp, by simp, (fun hk => by rcases hk with hk | hk <;> cases hk), fun hl => ?_⟩
      simp [okB, fitsB]
      omega
    · have := nest_part h k (lev + 1) p hp
      exact ⟨this.1, this.2.1, this.2.2.1, fun hl => this.2.2.2 (by omega)⟩
theorem nest_bad {r : R} : ∀ k lev, lev ≤ 8 → 8 < lev + k → (heads lev (nest k r)).all okB = false
  | 0, lev, h1, h2 => by omega
  | k + 1, lev, h1, h2 => by
    rw [nest_heads, List.all_cons]
    by_cases h : lev = 8
    · subst h
      rw [show okB (⟨6, [], 0, 1⟩, 8) = false from rfl]
      rfl
    · rw [nest_bad k (lev + 1) (by omega) (by omega), Bool.and_false]
theorem nest_may {r : R} (h : ∀ lev, ∀ p ∈ heads lev r, HP p) (k : Nat) : mayB (nest k r) = decide (k ≤ 8) := by
  unfold mayB
  by_cases hk : k ≤ 8
  · rw [decide_eq_true hk, List.all_eq_true]
    exact fun p hp => (nest_part h k 0 p hp).2.2.2 (by omega)
  · rw [decide_eq_false hk]
    exact nest_bad k 0 (by omega) (by omega)
theorem encH_le {B : Nat} : ∀ (hs : List (H × Nat)), (∀ p ∈ hs, (own p.1).length ≤ B) → (encH hs).length ≤ B * hs.length
  | [], _ => by simp [encH]
  | p :: hs, h => by
    have ih := encH_le hs fun q hq => h q (by simp [hq])
    have h1 := h p (by simp)
    have e : encH (p :: hs) = own p.1 ++ encH hs := by unfold encH; rw [List.flatMap_cons]
    rw [e, List.length_append, List.length_cons, Nat.mul_add]
    omega
theorem fits_m {h : H} (hf : fitsB h = true) : h.m ≤ 65536 := by
  unfold fitsB at hf
  split at hf
  · simp at hf; omega
  split at hf
  · simp at hf; omega
  split at hf
  · simp at hf; omega
  split at hf
  · simp at hf; omega
  split at hf
  · simp at hf; omega
  · cases hf
theorem enc_short {r : R} {n : Nat} (hm : mayB r = true) (h : ∀ p ∈ heads 0 r, NumOk p.1 ∧ p.1.s.length ≤ 100) (hn : (heads 0 r).length ≤ n) : (enc r).length ≤ 200 * n := by
  rw [← encH_heads 0 r]
  have := encH_le (B := 200) (heads 0 r) fun p hp => by
    have h1 := h p hp
    have h2 : okB p = true := by
      unfold mayB at hm
      exact List.all_eq_true.1 hm p hp
    unfold okB at h2
    rw [Bool.and_eq_true] at h2
    have h3 := fits_m h2.1
    exact own_short h1.1 (by omega) h1.2
  have : 200 * (heads 0 r).length ≤ 200 * n := Nat.mul_le_mul_left _ hn
  omega
end Rp

/-- Get of the bytes of a text that is none, or not whole. -/
theorem get_err (X : List UInt8) (hl : X.length ≤ 1000) (c : Int) (h : Rp.replyD 8 X = .err c) (W : World) (henv : Env W) :
    Calls Tryd.prog 17 #[.slice (some ⟨W.heap.size, 0, none⟩) X.length (capS W X), .int .i64 0] (Lib.bytesWorld W 5 ⟨X.toArray⟩) fun e W' => e = .returned (.tuple #[.agg #[.int .i64 0, .string ⟨#[]⟩, .int .i64 0, .slice none 0 0], .int .i64 0, .int .i64 c]) ∧ Below W.heap.size W W' := by
  have hb := Lib.bytesWorld_below W 5 ⟨X.toArray⟩
  have hg := get_any X 0 _ _ _ (by omega) (by decide) (by decide) (sb_bt W X (by omega) ⟨grownCap_ge _ _ _ _, by
    have := grownCap_le_maxLen W X.length 0 5 (by unfold maxLen; omega)
    unfold capS
    unfold maxLen at this
    omega⟩) (henv.later hb)
  have e : getO X 0 = .err c := by
    unfold getO
    rw [if_neg (by omega)]
    exact h
  rw [e] at hg
  refine hg.mono ?_
  rintro e W' ⟨hb2, _, rfl⟩
  exact ⟨rfl, hb.trans (hb2.mono hb.size)⟩

/-- a reply in a box: its value lies there, its elements elsewhere. -/
def RBox (w0 : World) (Rb : Nat) (r : Rp.R) (W : World) : Prop :=
  ∃ a cap, W.heap[Rb]? = some (.cells #[.int .i64 r.k, .string ⟨r.s.toArray⟩, .int .i64 r.n, .slice a r.l.length cap] 24 (0, 0)) ∧ Rep (fun k => w0.heap.size ≤ k ∧ k ≠ Rb) W r (rv r.k r.s r.n a r.l.length cap) ∧ Below w0.heap.size w0 W

theorem RBox.step {w0 W : World} {Rb : Nat} {r : Rp.R} {a : Option Addr} {cap : Nat} (h0 : w0.heap.size ≤ Rb) (h1 : W.heap[Rb]? = some (.cells #[.int .i64 r.k, .string ⟨r.s.toArray⟩, .int .i64 r.n, .slice a r.l.length cap] 24 (0, 0)))
    (h2 : Rep (fun k => w0.heap.size ≤ k ∧ k ≠ Rb) W r (rv r.k r.s r.n a r.l.length cap)) (h3 : Below w0.heap.size w0 W) :
    RBox w0 Rb (.mk 6 [] 0 [r]) (set4 (W.alloc (.cells #[.int .i64 r.k, .string ⟨r.s.toArray⟩, .int .i64 r.n, .slice a r.l.length cap] 24)) Rb (.int .i64 6) (.string ⟨#[]⟩) (.int .i64 0) (.slice (some ⟨W.heap.size, 0, none⟩) 1 1)) := by
  have hlt : Rb < W.heap.size := (Array.getElem?_eq_some_iff.1 h1).1
  have hb1 := (Below.refl W.heap.size W).alloc (Nat.le_refl _) (.cells #[.int .i64 r.k, .string ⟨r.s.toArray⟩, .int .i64 r.n, .slice a r.l.length cap] 24)
  have h1' := (hb1.block Rb hlt).trans h1
  have hx := World.alloc_heap_new W (.cells #[.int .i64 r.k, .string ⟨r.s.toArray⟩, .int .i64 r.n, .slice a r.l.length cap] 24)
  have hk : Keeps (fun k => w0.heap.size ≤ k ∧ k ≠ Rb) (W.alloc (.cells #[.int .i64 r.k, .string ⟨r.s.toArray⟩, .int .i64 r.n, .slice a r.l.length cap] 24)) (set4 (W.alloc (.cells #[.int .i64 r.k, .string ⟨r.s.toArray⟩, .int .i64 r.n, .slice a r.l.length cap] 24)) Rb (.int .i64 6) (.string ⟨#[]⟩) (.int .i64 0) (.slice (some ⟨W.heap.size, 0, none⟩) 1 1)) := keeps_set4 (Keeps.refl _ _) (.inr fun h => h.2 rfl) _ _ _ _
  have hwz := h3.size
  have hg := hk.heap hx ⟨hwz, by omega⟩
  obtain ⟨c0, c1, c2, c3⟩ := cells_four hg
  refine ⟨_, _, heap_four h1' _ _ _ _, ?_, below_set4 (h3.trans (hb1.mono hwz)) h0 _ _ _ _⟩
  refine Rep.intro (l := [r]) (by unfold Fit; simp) (.inr ⟨W.heap.size, 0, rfl, ⟨hwz, by omega⟩, by simp [set4], ?_⟩)
  unfold RepL
  refine ⟨⟨_, _, _, _, c0, c1, c2, c3, ?_⟩, by unfold RepL; trivial⟩
  exact Rep.keeps hk (fun k h _ => h) _ _ (Rep.keeps (Keeps.of_below hb1 fun _ h _ => h) (fun k h _ => h) _ _ h2)

theorem RBox.later {w0 W W' : World} {Rb : Nat} {r : Rp.R} (h : RBox w0 Rb r W) (hb : Below W.heap.size W W') : RBox w0 Rb r W' := by
  obtain ⟨a, cap, h1, h2, h3⟩ := h
  exact ⟨a, cap, (hb.block Rb (Array.getElem?_eq_some_iff.1 h1).1).trans h1, h2.later hb, h3.trans (hb.mono h3.size)⟩
end Go.Proofs.YtcjbfgkmpoebgaaDoor
