/- Union, Both and Minus of sets that are written out at the call. -/
import Derived.Test.YtekdmnecjgpokaaStBoth
import Derived.Test.YtekdmnecjgpokaaStRef
namespace Go.Proofs.Ytekdmnecjgpokaa
open Go.RowKit Go.Shelf
set_option linter.unusedVariables false
set_option linter.unusedSimpArgs false

/-- texts in memory; nil has no room. -/
def VS (W : World) (a : Option Addr) (c : Nat) (l : List St.Bs) : Prop := Wds W a c l ∧ (a = none → c = 0)
theorem VS.later {W W' : World} {a : Option Addr} {c : Nat} {l : List St.Bs} (h : VS W a c l) (hb : Below W.heap.size W W') : VS W' a c l := ⟨h.1.later hb, h.2⟩
/-- what is handed back. -/
def VOut (W : World) (l : List St.Bs) (e : Ending) (W' : World) : Prop := ∃ a c, e = .returned (.slice a l.length c) ∧ VS W' a c l ∧ Below W.heap.size W W'
/-- a set of no great size. -/
def SetP (l : List St.Bs) : Prop := Mk.upS l ∧ (∀ s ∈ l, OkW s) ∧ l.length ≤ 1000

theorem RowW.vs {w W : World} {u : Value} {l : List St.Bs} (h : RowW w u l W) (hs : ∀ s ∈ l, OkW s) : VOut w l (.returned u) W := by
  have hs' : ∀ s ∈ l, s.length ≤ 9223372036854775807 := fun s h => by have : s.length ≤ 1000000 := hs s h; omega
  obtain ⟨a, c, rfl, hw, ho⟩ := wds_of_row h.1 hs'
  refine ⟨a, c, rfl, ⟨hw, ?_⟩, h.2⟩
  rintro rfl
  rcases h.1.2 with ⟨h1, -⟩ | ⟨g, cap, cur, h1, -⟩
  · injection h1
  · injection h1 with h1
    cases h1

theorem wss_lit (W : World) (vs : List Value) (L : List (List St.Bs)) (hl : vs.length = L.length) (h : ∀ k, k < L.length → ∃ a c, vs.getD k undef = .slice a (L.getD k []).length c ∧ VS W a c (L.getD k [])) (hL : L.length ≤ 1000) :
    Wss (W.alloc (.cells vs.toArray 25)) (some ⟨W.heap.size, 0, none⟩) L.length L := by
  refine ⟨Nat.le_refl _, by omega, .inr ⟨W.heap.size, 0, rfl, by simp, fun k hk => ?_⟩⟩
  obtain ⟨a, c, h1, h2⟩ := h k hk
  refine ⟨a, c, ?_, (h2.1.later ((Below.refl _ _).alloc (Nat.le_refl _) _)), h2.2⟩
  rw [Nat.zero_add, cell_of_row _ _ k _ 25 (0, 0) (World.alloc_heap_new W _), ← h1]
  have hk' : k < vs.length := by omega
  simp [hk', List.getD]

theorem setsIn1 {A : List St.Bs} (h : SetP A) : SetsIn [A] :=
  ⟨fun l hl => by rw [List.mem_singleton.1 hl]; exact h.1, fun l hl => by rw [List.mem_singleton.1 hl]; exact h.2.1, by have := h.2.2; simp; omega⟩
theorem setsIn2 {A B : List St.Bs} (h : SetP A) (k : SetP B) : SetsIn [A, B] := by
  refine ⟨fun l hl => ?_, fun l hl => ?_, by have := h.2.2; have := k.2.2; simp; omega⟩
  · simp only [List.mem_cons, List.not_mem_nil, or_false] at hl
    rcases hl with rfl | rfl
    · exact h.1
    · exact k.1
  · simp only [List.mem_cons, List.not_mem_nil, or_false] at hl
    rcases hl with rfl | rfl
    · exact h.2.1
    · exact k.2.1
theorem setsIn3 {A B C : List St.Bs} (h : SetP A) (k : SetP B) (m : SetP C) : SetsIn [A, B, C] := by
  refine ⟨fun l hl => ?_, fun l hl => ?_, by have := h.2.2; have := k.2.2; have := m.2.2; simp; omega⟩
  · simp only [List.mem_cons, List.not_mem_nil, or_false] at hl
    rcases hl with rfl | rfl | rfl
    · exact h.1
    · exact k.1
    · exact m.1
  · simp only [List.mem_cons, List.not_mem_nil, or_false] at hl
    rcases hl with rfl | rfl | rfl
    · exact h.2.1
    · exact k.2.1
    · exact m.2.1
theorem wss1 (W : World) {a1 : Option Addr} {c1 : Nat} {A : List St.Bs} (h1 : VS W a1 c1 A) : Wss (W.alloc (.cells #[.slice a1 A.length c1] 25)) (some ⟨W.heap.size, 0, none⟩) 1 [A] :=
  wss_lit W [.slice a1 A.length c1] [A] rfl (fun k hk => by
    match k, hk with
    | 0, _ => exact ⟨a1, c1, rfl, h1⟩) (by simp)
theorem wss2 (W : World) {a1 a2 : Option Addr} {c1 c2 : Nat} {A B : List St.Bs} (h1 : VS W a1 c1 A) (h2 : VS W a2 c2 B) : Wss (W.alloc (.cells #[.slice a1 A.length c1, .slice a2 B.length c2] 25)) (some ⟨W.heap.size, 0, none⟩) 2 [A, B] :=
  wss_lit W [.slice a1 A.length c1, .slice a2 B.length c2] [A, B] rfl (fun k hk => by
    match k, hk with
    | 0, _ => exact ⟨a1, c1, rfl, h1⟩
    | 1, _ => exact ⟨a2, c2, rfl, h2⟩) (by simp)
theorem wss3 (W : World) {a1 a2 a3 : Option Addr} {c1 c2 c3 : Nat} {A B C : List St.Bs} (h1 : VS W a1 c1 A) (h2 : VS W a2 c2 B) (h3 : VS W a3 c3 C) : Wss (W.alloc (.cells #[.slice a1 A.length c1, .slice a2 B.length c2, .slice a3 C.length c3] 25)) (some ⟨W.heap.size, 0, none⟩) 3 [A, B, C] :=
  wss_lit W [.slice a1 A.length c1, .slice a2 B.length c2, .slice a3 C.length c3] [A, B, C] rfl (fun k hk => by
    match k, hk with
    | 0, _ => exact ⟨a1, c1, rfl, h1⟩
    | 1, _ => exact ⟨a2, c2, rfl, h2⟩
    | 2, _ => exact ⟨a3, c3, rfl, h3⟩) (by simp)

theorem vout_alloc {W : World} {o : Obj} {l : List St.Bs} {e : Ending} {W' : World} (h : VOut (W.alloc o) l e W') : VOut W l e W' := by
  obtain ⟨a, c, rfl, h1, h2⟩ := h
  have hB : Below W.heap.size W (W.alloc o) := (Below.refl _ _).alloc (Nat.le_refl _) _
  exact ⟨a, c, rfl, h1, hB.trans (h2.mono hB.size)⟩

theorem union2 (W : World) (a1 a2 : Option Addr) (c1 c2 : Nat) (A B R : List St.Bs) (h1 : VS W a1 c1 A) (h2 : VS W a2 c2 B) (s1 : SetP A) (s2 : SetP B) (hR : St.uniS [A, B] = R) :
    Calls Try.prog 16 #[.slice (some ⟨W.heap.size, 0, none⟩) 2 2] (W.alloc (.cells #[.slice a1 A.length c1, .slice a2 B.length c2] 25)) (VOut W R) := by
  subst hR
  refine (Union_any [A, B] _ 2 _ (wss2 W h1 h2) (setsIn2 s1 s2) (by simp)).mono ?_
  rintro e W' ⟨u, rfl, hr⟩
  exact vout_alloc (hr.vs (setsIn2 s1 s2).uni.2.2)
theorem union3 (W : World) (a1 a2 a3 : Option Addr) (c1 c2 c3 : Nat) (A B C R : List St.Bs) (h1 : VS W a1 c1 A) (h2 : VS W a2 c2 B) (h3 : VS W a3 c3 C) (s1 : SetP A) (s2 : SetP B) (s3 : SetP C) (hR : St.uniS [A, B, C] = R) :
    Calls Try.prog 16 #[.slice (some ⟨W.heap.size, 0, none⟩) 3 3] (W.alloc (.cells #[.slice a1 A.length c1, .slice a2 B.length c2, .slice a3 C.length c3] 25)) (VOut W R) := by
  subst hR
  refine (Union_any [A, B, C] _ 3 _ (wss3 W h1 h2 h3) (setsIn3 s1 s2 s3) (by simp)).mono ?_
  rintro e W' ⟨u, rfl, hr⟩
  exact vout_alloc (hr.vs (setsIn3 s1 s2 s3).uni.2.2)
theorem both1 (W : World) (a1 : Option Addr) (c1 : Nat) (A R : List St.Bs) (h1 : VS W a1 c1 A) (s1 : SetP A) (hR : St.bothS [A] = R) :
    Calls Try.prog 14 #[.slice (some ⟨W.heap.size, 0, none⟩) 1 1] (W.alloc (.cells #[.slice a1 A.length c1] 25)) (VOut W R) := by
  subst hR
  refine (both_any [A] _ 1 _ (wss1 W h1) (setsIn1 s1) (by simp)).mono ?_
  rintro e W' ⟨u, rfl, hr⟩
  exact vout_alloc (hr.vs (both_in (setsIn1 s1)).2.2)
theorem both2 (W : World) (a1 a2 : Option Addr) (c1 c2 : Nat) (A B R : List St.Bs) (h1 : VS W a1 c1 A) (h2 : VS W a2 c2 B) (s1 : SetP A) (s2 : SetP B) (hR : St.bothS [A, B] = R) :
    Calls Try.prog 14 #[.slice (some ⟨W.heap.size, 0, none⟩) 2 2] (W.alloc (.cells #[.slice a1 A.length c1, .slice a2 B.length c2] 25)) (VOut W R) := by
  subst hR
  refine (both_any [A, B] _ 2 _ (wss2 W h1 h2) (setsIn2 s1 s2) (by simp)).mono ?_
  rintro e W' ⟨u, rfl, hr⟩
  exact vout_alloc (hr.vs (both_in (setsIn2 s1 s2)).2.2)
theorem both3 (W : World) (a1 a2 a3 : Option Addr) (c1 c2 c3 : Nat) (A B C R : List St.Bs) (h1 : VS W a1 c1 A) (h2 : VS W a2 c2 B) (h3 : VS W a3 c3 C) (s1 : SetP A) (s2 : SetP B) (s3 : SetP C) (hR : St.bothS [A, B, C] = R) :
    Calls Try.prog 14 #[.slice (some ⟨W.heap.size, 0, none⟩) 3 3] (W.alloc (.cells #[.slice a1 A.length c1, .slice a2 B.length c2, .slice a3 C.length c3] 25)) (VOut W R) := by
  subst hR
  refine (both_any [A, B, C] _ 3 _ (wss3 W h1 h2 h3) (setsIn3 s1 s2 s3) (by simp)).mono ?_
  rintro e W' ⟨u, rfl, hr⟩
  exact vout_alloc (hr.vs (both_in (setsIn3 s1 s2 s3)).2.2)
theorem min_ok {A : List St.Bs} {L : List (List St.Bs)} (h : SetP A) : ∀ s ∈ St.minS A L, OkW s := fun s hs => h.2.1 s (St.mem_min.1 hs).1
theorem minus0 (W : World) (a1 : Option Addr) (c1 : Nat) (A R : List St.Bs) (h1 : VS W a1 c1 A) (s1 : SetP A) (hR : St.minS A [] = R) :
    Calls Try.prog 18 #[.slice a1 A.length c1, .slice none 0 0] W (VOut W R) := by
  subst hR
  refine (minus_any a1 c1 A [] none 0 W h1.1 s1.1 s1.2.1 (by have := s1.2.2; omega) ⟨Nat.le_refl _, by decide, .inl rfl⟩ ⟨by simp, by simp, by simp⟩ (by simp)).mono ?_
  rintro e W' ⟨u, rfl, hr⟩
  exact hr.vs (min_ok s1)
theorem minus1 (W : World) (a0 a1 : Option Addr) (c0 c1 : Nat) (X A R : List St.Bs) (h0 : VS W a0 c0 X) (h1 : VS W a1 c1 A) (s0 : SetP X) (s1 : SetP A) (hR : St.minS X [A] = R) :
    Calls Try.prog 18 #[.slice a0 X.length c0, .slice (some ⟨W.heap.size, 0, none⟩) 1 1] (W.alloc (.cells #[.slice a1 A.length c1] 25)) (VOut W R) := by
  subst hR
  refine (minus_any a0 c0 X [A] _ 1 _ (h0.1.later ((Below.refl _ _).alloc (Nat.le_refl _) _)) s0.1 s0.2.1 (by have := s0.2.2; omega) (wss1 W h1) (setsIn1 s1) (by simp)).mono ?_
  rintro e W' ⟨u, rfl, hr⟩
  exact vout_alloc (hr.vs (min_ok s0))
theorem minus2 (W : World) (a0 a1 a2 : Option Addr) (c0 c1 c2 : Nat) (X A B R : List St.Bs) (h0 : VS W a0 c0 X) (h1 : VS W a1 c1 A) (h2 : VS W a2 c2 B) (s0 : SetP X) (s1 : SetP A) (s2 : SetP B) (hR : St.minS X [A, B] = R) :
    Calls Try.prog 18 #[.slice a0 X.length c0, .slice (some ⟨W.heap.size, 0, none⟩) 2 2] (W.alloc (.cells #[.slice a1 A.length c1, .slice a2 B.length c2] 25)) (VOut W R) := by
  subst hR
  refine (minus_any a0 c0 X [A, B] _ 2 _ (h0.1.later ((Below.refl _ _).alloc (Nat.le_refl _) _)) s0.1 s0.2.1 (by have := s0.2.2; omega) (wss2 W h1 h2) (setsIn2 s1 s2) (by simp)).mono ?_
  rintro e W' ⟨u, rfl, hr⟩
  exact vout_alloc (hr.vs (min_ok s0))

theorem setP_uni {L : List (List St.Bs)} (h : SetsIn L) (hl : L.flatten.length ≤ 1000) : SetP (St.uniS L) := ⟨St.uni_up L, h.uni.2.2, Nat.le_trans (St.uni_len L) hl⟩
theorem setP_both {L : List (List St.Bs)} (h : SetsIn L) (hl : L.flatten.length ≤ 1000) : SetP (St.bothS L) := by
  refine ⟨(both_in h).2.1, (both_in h).2.2, ?_⟩
  cases L with
  | nil => simp [St.bothS]
  | cons l L =>
    have h1 : (St.bothS (l :: L)).length ≤ l.length := List.length_filter_le _ _
    rw [List.flatten_cons, List.length_append] at hl
    omega
theorem setP_min {A : List St.Bs} {L : List (List St.Bs)} (h : SetP A) : SetP (St.minS A L) := ⟨St.min_up L h.1, min_ok h, Nat.le_trans (List.length_filter_le _ _) h.2.2⟩
end Go.Proofs.Ytekdmnecjgpokaa
