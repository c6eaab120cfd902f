/- What the reader leaves is an end of what it was given. No program in it. The contract of the reader's reply: by the room. The contract of the reader's reply, at every room. -/
import Derived.Test.YtbkhnnjjpelfcaaGreatDoorRpArray
namespace Go.Proofs.YtbkhnnjjpelfcaaGreatDoor
namespace Rp

theorem IsSuf.drop (bs : List UInt8) (k : Nat) : IsSuf (bs.drop k) bs := ⟨k, rfl⟩
theorem IsSuf.tail (x : UInt8) (bs : List UInt8) : IsSuf bs (x :: bs) := ⟨1, rfl⟩

theorem endP_suf {α : Type} {a x : α} {bs t : List UInt8} (h : endP a bs = .ok x t) : IsSuf t bs := by
  cases bs with
  | nil => cases h
  | cons u l =>
    unfold endP at h
    cases l with
    | nil =>
      simp only at h
      split at h <;> cases h
    | cons v r =>
      simp only at h
      split at h
      · split at h
        · injection h with _ h
          exact ⟨2, h.symm⟩
        · cases h
      · cases h

theorem textP_suf {n : Nat} {bs t s : List UInt8} (h : textP n bs = .ok s t) : IsSuf t bs := by
  unfold textP at h
  split at h
  · cases h
  · exact (endP_suf h).trans (IsSuf.drop bs n)

theorem Out.map_ok {α β : Type} {f : α → β} {o : Out α} {y : β} {t : List UInt8} (h : o.map f = .ok y t) : ∃ x, o = .ok x t ∧ y = f x := by
  cases o with
  | ok x r =>
    injection h with h1 h2
    exact ⟨x, by rw [h2], h1.symm⟩
  | err e => cases h
theorem Out.bind_ok {α β : Type} {f : α → List UInt8 → Out β} {o : Out α} {y : β} {t : List UInt8} (h : o.bind f = .ok y t) : ∃ x r, o = .ok x r ∧ f x r = .ok y t := by
  cases o with
  | ok x r => exact ⟨x, r, rfl, h⟩
  | err e => cases h

theorem devP_suf {lo hi n : Int} {bs t : List UInt8} (h : devP lo hi bs = .ok n t) : IsSuf t bs := by
  unfold devP at h
  split at h
  · cases h
  · split at h
    · split at h
      · obtain ⟨x, hx, _⟩ := Out.map_ok h
        exact textP_suf hx
      · cases h
    · cases h

theorem lineP_suf {bs s t : List UInt8} (h : lineP bs = .ok s t) : IsSuf t bs := by
  unfold lineP at h
  dsimp only at h
  split at h
  · cases h
  · exact (endP_suf h).trans (IsSuf.drop bs _)

theorem bulkD_suf {bs t : List UInt8} {r : R} (h : bulkD bs = .ok r t) : IsSuf t bs := by
  obtain ⟨n, u, h1, h2⟩ := Out.bind_ok h
  split at h2
  · injection h2 with _ h2
    subst h2
    exact devP_suf h1
  · obtain ⟨s, hs, _⟩ := Out.map_ok h2
    exact (textP_suf hs).trans (devP_suf h1)

theorem manyP_suf {f : List UInt8 → Out R} (hf : ∀ b r t, f b = .ok r t → IsSuf t b) : ∀ {n : Nat} {bs t : List UInt8} {l : List R}, manyP f n bs = .ok l t → IsSuf t bs
  | 0, bs, t, l, h => by
    injection h with _ h
    subst h
    exact IsSuf.refl _
  | n + 1, bs, t, l, h => by
    obtain ⟨r, u, h1, h2⟩ := Out.bind_ok h
    obtain ⟨l', h3, _⟩ := Out.map_ok h2
    exact (manyP_suf hf h3).trans (hf _ _ _ h1)

theorem arrD_suf {f : List UInt8 → Out R} (hf : ∀ b r t, f b = .ok r t → IsSuf t b) {bs t : List UInt8} {r : R} (h : arrD f bs = .ok r t) : IsSuf t bs := by
  obtain ⟨n, u, h1, h2⟩ := Out.bind_ok h
  obtain ⟨l', h3, _⟩ := Out.map_ok h2
  exact (manyP_suf hf h3).trans (devP_suf h1)

theorem markD_suf {A : List UInt8 → Out R} (hA : ∀ b r t, A b = .ok r t → IsSuf t b) {bs t : List UInt8} {r : R} (h : markD A bs = .ok r t) : IsSuf t bs := by
  cases bs with
  | nil => cases h
  | cons x b =>
    refine IsSuf.trans ?_ (IsSuf.tail x b)
    simp only [markD] at h
    split at h
    · obtain ⟨s, hs, _⟩ := Out.map_ok h
      exact lineP_suf hs
    · split at h
      · obtain ⟨s, hs, _⟩ := Out.map_ok h
        exact lineP_suf hs
      · split at h
        · obtain ⟨s, hs, _⟩ := Out.map_ok h
          exact devP_suf hs
        · split at h
          · exact bulkD_suf h
          · split at h
            · exact hA _ _ _ h
            · cases h

theorem replyD_suf : ∀ (d : Nat) {bs t : List UInt8} {r : R}, replyD d bs = .ok r t → IsSuf t bs
  | 0, _, _, _, h => markD_suf (fun _ _ _ h => by cases h) h
  | d + 1, _, _, _, h => markD_suf (fun _ _ _ h => arrD_suf (fun _ _ _ h => replyD_suf d h) h) h
end Rp
end Go.Proofs.YtbkhnnjjpelfcaaGreatDoor
namespace Go.Proofs.YtbkhnnjjpelfcaaGreatDoor
open Go.RowKit Go.Shelf
attribute [local go_sem] Oper.semAt_some

set_option maxHeartbeats 2000000 in
theorem array_zero (S : Nat → Prop) (Pb : Nat) (w : World) :
    CallsIn Fence.wide 0 Tryz.prog 49 #[.pointer (some ⟨Pb, 0, none⟩), .int .i64 0] w (ROut S Pb w (.err 5)) := by
  refine callsIn_of_wp_marks Tryz.func49 rfl trivial ?_ rfl
  simp only [Tryz.ntmps49, List.size_toArray, List.length_cons, List.length_nil, Nat.reduceAdd, Nat.reduceSub, Array.replicate_succ, Array.replicate_zero, List.push_toArray, List.append_toArray, List.nil_append, List.cons_append]
  gi_wp2
  have hA : ((w.alloc (.cells #[.int .i64 0, .string ⟨#[]⟩, .int .i64 0, .slice none 0 0] 45)).alloc (.cells #[.int .i64 5] 46)).heap[w.heap.size]? = some (.cells #[.int .i64 0, .string ⟨#[]⟩, .int .i64 0, .slice none 0 0] 45 (0, 0)) :=
    (Below.heap_alloc _ _ _ (by simp)).trans (World.alloc_heap_new w _)
  have hE := World.alloc_heap_new (w.alloc (.cells #[.int .i64 0, .string ⟨#[]⟩, .int .i64 0, .slice none 0 0] 45)) (.cells #[.int .i64 5] 46)
  rw [World.size_alloc] at hE
  obtain ⟨h0, h1, h2, h3⟩ := cells_four hA
  refine ⟨_, results_cell2 (t := 4) (T := 45) (u := 5) (U := 46) (p := ⟨w.heap.size, 0, none⟩) (q := ⟨w.heap.size + 1, 0, none⟩) rfl rfl (loadVar24 _ _ _ _ _ _ h0 h1 h2 h3) rfl (loadVar32 _ _ _ (Boxed.cell hE)), ?_⟩
  exact ⟨((Keeps.refl _ w).alloc _).alloc _, by omega, _, _, _, _, _, _, rfl⟩

def Z4 : Obj := .cells #[.int .i64 0, .string ⟨#[]⟩, .int .i64 0, .slice none 0 0] 45 (0, 0)

theorem told_text {S : Nat → Prop} {Pb : Nat} {w W2 w3 : World} {o : Rp.Out (List UInt8)} {e : Ending} (hkW : Keeps (fun k => k ≠ Pb) w W2) (_hs2 : W2.heap.size = w.heap.size + 1) (hbox : W2.heap[w.heap.size]? = some Z4) (hPb : Pb < w.heap.size) (hSlt : ∀ k, S k → k < w.heap.size)
    (hlen : ∀ s t, o = .ok s t → s.length ≤ 512) (herr : ∀ c, o = .err c → c ≠ 0) (h : TOut S Pb W2 o e w3) :
    ∃ s c, e = .returned (.tuple #[.string s, .int .i64 c]) ∧ w3.heap[w.heap.size]? = some Z4 ∧
      ∀ k : Int, 0 ≤ k → k ≤ 9 → ROut S Pb w (o.map fun s => .mk k s 0 []) (.returned (.tuple #[.agg #[.int .i64 k, .string s, .int .i64 0, .slice none 0 0], .int .i64 c])) (set4 w3 w.heap.size (.int .i64 k) (.string s) (.int .i64 0) (.slice none 0 0)) := by
  obtain ⟨hk, h⟩ := h
  cases o with
  | ok s t =>
    obtain ⟨rfl, hr⟩ := h
    have := hlen s t rfl
    refine ⟨_, 0, rfl, hk.heap hbox (by omega), fun k h1 h2 => ⟨keeps_set4 (hkW.trans hk) (.inl (Nat.le_refl _)) _ _ _ _, ⟨_, rfl, rep_plain (by unfold Fit; omega)⟩, ?_⟩⟩
    exact hr.keeps (T := fun k => k ≠ w.heap.size) (keeps_set4 (Keeps.refl _ w3) (.inr fun h => h rfl) _ _ _ _) (fun k hk => by have := hSlt k hk; omega) (by omega)
  | err c =>
    subst h
    exact ⟨_, c, rfl, hk.heap hbox (by omega), fun k h1 h2 => ⟨keeps_set4 (hkW.trans hk) (.inl (Nat.le_refl _)) _ _ _ _, herr c rfl, _, _, _, _, _, _, rfl⟩⟩

theorem told_num {S : Nat → Prop} {Pb : Nat} {w W2 w3 : World} {o : Rp.Out Int} {e : Ending} (hkW : Keeps (fun k => k ≠ Pb) w W2) (_hs2 : W2.heap.size = w.heap.size + 1) (hbox : W2.heap[w.heap.size]? = some Z4) (hPb : Pb < w.heap.size) (hSlt : ∀ k, S k → k < w.heap.size)
    (hlen : ∀ n t, o = .ok n t → -9223372036854775808 ≤ n ∧ n ≤ 9223372036854775807) (herr : ∀ c, o = .err c → c ≠ 0) (h : NOut S Pb W2 o e w3) :
    ∃ n c, e = .returned (.tuple #[.int .i64 n, .int .i64 c]) ∧ w3.heap[w.heap.size]? = some Z4 ∧
      ROut S Pb w (o.map fun n => .mk 3 [] n []) (.returned (.tuple #[.agg #[.int .i64 3, .string ⟨#[]⟩, .int .i64 n, .slice none 0 0], .int .i64 c])) (set4 w3 w.heap.size (.int .i64 3) (.string ⟨#[]⟩) (.int .i64 n) (.slice none 0 0)) := by
  obtain ⟨hk, h⟩ := h
  cases o with
  | ok n t =>
    obtain ⟨rfl, hr⟩ := h
    have := hlen n t rfl
    refine ⟨n, 0, rfl, hk.heap hbox (by omega), keeps_set4 (hkW.trans hk) (.inl (Nat.le_refl _)) _ _ _ _, ⟨_, rfl, rep_plain (s := []) (by unfold Fit; simp; omega)⟩, ?_⟩
    exact hr.keeps (T := fun k => k ≠ w.heap.size) (keeps_set4 (Keeps.refl _ w3) (.inr fun h => h rfl) _ _ _ _) (fun k hk => by have := hSlt k hk; omega) (by omega)
  | err c =>
    obtain ⟨n, rfl⟩ := h
    exact ⟨n, c, rfl, hk.heap hbox (by omega), keeps_set4 (hkW.trans hk) (.inl (Nat.le_refl _)) _ _ _ _, herr c rfl, _, _, _, _, _, _, rfl⟩

theorem told_rep {S : Nat → Prop} {Pb : Nat} {w W2 w3 : World} {o : Rp.Out Rp.R} {e : Ending} (hkW : Keeps (fun k => k ≠ Pb) w W2) (hs2 : W2.heap.size = w.heap.size + 1) (hbox : W2.heap[w.heap.size]? = some Z4) (hPb : Pb < w.heap.size) (hSlt : ∀ k, S k → k < w.heap.size) (h : ROut S Pb W2 o e w3) :
    ∃ k s n a m cap c, e = .returned (.tuple #[.agg #[.int .i64 k, .string s, .int .i64 n, .slice a m cap], .int .i64 c]) ∧ w3.heap[w.heap.size]? = some Z4 ∧
      ROut S Pb w o (.returned (.tuple #[.agg #[.int .i64 k, .string s, .int .i64 n, .slice a m cap], .int .i64 c])) (set4 w3 w.heap.size (.int .i64 k) (.string s) (.int .i64 n) (.slice a m cap)) := by
  obtain ⟨k, s, n, a, m, cap, c, rfl⟩ := h.form
  obtain ⟨hk, h⟩ := h
  refine ⟨k, s, n, a, m, cap, c, rfl, hk.heap hbox (by omega), keeps_set4 (hkW.trans hk) (.inl (Nat.le_refl _)) _ _ _ _, ?_⟩
  cases o with
  | ok r t =>
    obtain ⟨⟨v, he, hr⟩, hs⟩ := h
    refine ⟨⟨v, he, ?_⟩, ?_⟩
    · exact Rep.keeps (keeps_set4 (Keeps.refl (fun k => W2.heap.size ≤ k) w3) (.inr (by omega)) _ _ _ _) (fun k (hk : W2.heap.size ≤ k) _ => by omega) r v hr
    · exact hs.keeps (T := fun k => k ≠ w.heap.size) (keeps_set4 (Keeps.refl _ w3) (.inr fun h => h rfl) _ _ _ _) (fun k hk => by have := hSlt k hk; omega) (by omega)
  | err c' => exact h

theorem lineP_len {bs s t : List UInt8} (h : Rp.lineP bs = .ok s t) : s.length ≤ 512 := by
  unfold Rp.lineP at h
  dsimp only at h
  split at h
  · cases h
  · rw [Rp.endP_cases] at h
    split at h
    · injection h with h _
      rw [← h]
      omega
    · split at h <;> cases h

set_option maxRecDepth 100000 in
set_option maxHeartbeats 8000000 in
theorem mark_any (room : Int) (A : List UInt8 → Rp.Out Rp.R) (S : Nat → Prop) (Pb : Nat) (bs : List UInt8) (w : World) (h : Rst S Pb w bs) (hS : ¬ S Pb) (hSlt : ∀ k, S k → k < w.heap.size) (henv : Env w) (hPb8 : 8 ≤ Pb)
    (hia : ∀ t, Rp.IsSuf t bs → IA (t.take 512))
    (hA : ∀ b w', Rp.IsSuf b bs → Rst S Pb w' b → Env w' → (∀ k, S k → k < w'.heap.size) → CallsIn Fence.wide 0 Tryz.prog 49 #[.pointer (some ⟨Pb, 0, none⟩), .int .i64 room] w' (ROut S Pb w' (A b))) :
    CallsIn Fence.wide 0 Tryz.prog 31 #[.pointer (some ⟨Pb, 0, none⟩), .int .i64 room] w (ROut S Pb w (Rp.markD A bs)) := by
  have hPb := h.lt
  obtain ⟨a, cap, hbx, hbt⟩ := h
  have hkZ : Keeps (fun _ => True) w (w.alloc (.cells #[.int .i64 0, .string ⟨#[]⟩, .int .i64 0, .slice none 0 0] 45)) := (Keeps.refl _ _).alloc _
  have hbZ := hkZ.heap hbx trivial
  have c1 := Boxed.cell hbZ
  have c2 := Boxed.frozen hbZ
  refine callsIn_of_wp_marks Tryz.func31 rfl trivial ?_ rfl
  simp only [Tryz.ntmps31, List.size_toArray, List.length_cons, List.length_nil, Nat.reduceAdd, Nat.reduceSub, Array.replicate_succ, Array.replicate_zero, List.push_toArray, List.append_toArray, List.nil_append, List.cons_append]
  cases bs with
  | nil =>
    have HA : Hid ((w.alloc (.cells #[.int .i64 0, .string ⟨#[]⟩, .int .i64 0, .slice none 0 0] 45)).heap[w.heap.size]? = some (.cells #[.int .i64 0, .string ⟨#[]⟩, .int .i64 0, .slice none 0 0] 45 (0, 0))) := Lib.hid (World.alloc_heap_new w _)
    clear hbx hbt hkZ hbZ
    gi_wp2
    obtain ⟨h0, h1, h2, h3⟩ := cells_four HA.out
    refine ⟨_, results_cellt (t := 4) (u := 5) (T := 45) (p := ⟨w.heap.size, 0, none⟩) rfl rfl (loadVar24 _ _ _ _ _ _ h0 h1 h2 h3), ?_⟩
    exact ⟨(Keeps.refl _ w).alloc _, by omega, _, _, _, _, _, _, rfl⟩
  | cons x b =>
    obtain ⟨g, o, rfl, hg, hglt, hcs⟩ := hbt.2.2.resolve_left (by simp)
    have hx : (w.alloc (.cells #[.int .i64 0, .string ⟨#[]⟩, .int .i64 0, .slice none 0 0] 45)).cell? ⟨g, o, none⟩ = some (.int .u8 (x.toNat : Int)) := (hkZ.cell (p := ⟨g, o, none⟩) hglt trivial).trans (hcs 0 (by simp))
    have hl := hbt.1
    have hcap := hbt.2.1
    have i1 : (0 : Int) < (b.length : Int) + 1 := by omega
    have i2 : ¬ ((b.length : Int) + 1 = 0) := by omega
    have i3 : (1 : Int) ≤ (b.length : Int) + 1 := by omega
    rw [List.length_cons] at hl
    have hbd := hbt.from (n := 1) (by simp)
    change Bt S w (if cap = 1 then some ⟨g, o, none⟩ else some (Addr.add ⟨g, o, none⟩ 1)) (cap - 1) b at hbd
    by_cases hc1 : cap = 1
    · obtain rfl : b = [] := List.eq_nil_of_length_eq_zero (by omega)
      subst hc1
      have hst : Rst S Pb (w.setCell ⟨Pb, 0, none⟩ (.slice (some ⟨g, o, none⟩) 0 0)) [] := Rst.set hbx hS (by rw [if_pos rfl] at hbd; exact hbd)
      obtain ⟨W2, hW2⟩ : ∃ W2, (w.setCell ⟨Pb, 0, none⟩ (.slice (some ⟨g, o, none⟩) 0 0)).alloc (.cells #[.int .i64 0, .string ⟨#[]⟩, .int .i64 0, .slice none 0 0] 45) = W2 := ⟨_, rfl⟩
      have hk2 : Keeps (fun k => k ≠ Pb) w W2 := by rw [← hW2]; exact ((Keeps.refl _ w).setCell (.inr fun h => h rfl) _).alloc _
      have hs2 : W2.heap.size = w.heap.size + 1 := by rw [← hW2]; simp
      have hb2 : W2.heap[w.heap.size]? = some Z4 := by
        rw [← hW2]
        have := World.alloc_heap_new (w.setCell ⟨Pb, 0, none⟩ (.slice (some ⟨g, o, none⟩) 0 0)) (.cells #[.int .i64 0, .string ⟨#[]⟩, .int .i64 0, .slice none 0 0] 45)
        rwa [show (w.setCell ⟨Pb, 0, none⟩ (.slice (some ⟨g, o, none⟩) 0 0)).heap.size = w.heap.size by simp] at this
      have hr2 : Rst S Pb W2 [] := by rw [← hW2]; exact hst.keeps ((Keeps.refl (fun _ => True) _).alloc _) (fun _ _ => trivial) trivial
      have he2 : Env W2 := henv.keeps hk2 (fun k hk => by omega)
      have hlt2 : ∀ k, S k → k < W2.heap.size := fun k hk => by have := hSlt k hk; omega
      have hsf : Rp.IsSuf [] (x :: []) := Rp.IsSuf.tail x _
      have HLI := Lib.hid ((callsIn_wide (n := 0)).2 (line_any S Pb [] W2 hr2 hS hlt2 he2 (hia _ hsf)))
      have HNU := Lib.hid ((callsIn_wide (n := 0)).2 (rpNumber_any S Pb [] (-9223372036854775808) 9223372036854775807 W2 hr2 hS hlt2 (by omega) (by omega) (by omega) (by omega) he2))
      have HBU := Lib.hid ((callsIn_wide (n := 0)).2 (bulk_any S Pb [] W2 hr2 hS hlt2 he2))
      have HAR := Lib.hid (hA [] W2 hsf hr2 he2 hlt2)
      have TT := fun e w3 h => told_text (e := e) (w3 := w3) (o := Rp.lineP []) hk2 hs2 hb2 hPb hSlt (fun s t h => lineP_len h) (fun c h => by have := lineP_err h; omega) h
      have TN := fun e w3 h => told_num (e := e) (w3 := w3) (o := Rp.devP (-9223372036854775808) 9223372036854775807 []) hk2 hs2 hb2 hPb hSlt (fun n t h => by have := devP_range h; omega) (fun c h => by have := devP_err h; omega) h
      have TB := fun o e w3 h => told_rep (e := e) (w3 := w3) (o := o) hk2 hs2 hb2 hPb hSlt h
      have HT := Lib.hid TT
      have HN := Lib.hid TN
      have HB := Lib.hid TB
      have HW2 := Lib.hid hW2
      have HR2 := Lib.hid hr2
      have HK2 := Lib.hid hk2
      have HB2 := Lib.hid hb2
      have HSZ := Lib.hid hs2
      clear hW2 hk2 hs2 hb2 hr2 he2 hlt2 hsf TT TN TB hbx hbt hkZ hbZ hst hbd hcs hia hA henv
      by_cases q43 : x = 43
      · have HR : Hid (Rp.markD A (x :: []) = (Rp.lineP []).map fun s => .mk 1 s 0 []) := Lib.hid (by subst q43; rfl)
        have hn : (x.toNat : Int) = 43 := by rw [q43]; rfl
        rw [hn] at hx
        clear q43 hn
        gi_wp2_with (rw [HW2.out]; refine ⟨trivial, rfl, ?_⟩; refine (HLI.out).mono ?_; rintro e w3 ho; obtain ⟨s, c, rfl, hbx, hf⟩ := HT.out _ _ ho; have HBX := Lib.hid hbx; have HF := Lib.hid (hf 1 (by omega) (by omega)); clear hf; obtain ⟨b0, b1, b2, b3, f0, f1, f2, f3⟩ := cells_four' hbx; clear hbx ho)
        obtain ⟨h0, h1, h2, h3⟩ := cells_four (heap_four HBX.out (.int .i64 1) (.string s) (.int .i64 0) (.slice none 0 0))
        refine ⟨_, results_cellt (t := 4) (u := 5) (T := 45) (p := ⟨w.heap.size, 0, none⟩) rfl rfl (loadVar24 _ _ _ _ _ _ h0 h1 h2 h3), ?_⟩
        rw [HR.out]
        exact HF.out
      by_cases q45 : x = 45
      · have HR : Hid (Rp.markD A (x :: []) = (Rp.lineP []).map fun s => .mk 2 s 0 []) := Lib.hid (by subst q45; rfl)
        have hn : (x.toNat : Int) = 45 := by rw [q45]; rfl
        rw [hn] at hx
        clear q45 hn
        gi_wp2_with (rw [HW2.out]; refine ⟨trivial, rfl, ?_⟩; refine (HLI.out).mono ?_; rintro e w3 ho; obtain ⟨s, c, rfl, hbx, hf⟩ := HT.out _ _ ho; have HBX := Lib.hid hbx; have HF := Lib.hid (hf 2 (by omega) (by omega)); clear hf; obtain ⟨b0, b1, b2, b3, f0, f1, f2, f3⟩ := cells_four' hbx; clear hbx ho)
        obtain ⟨h0, h1, h2, h3⟩ := cells_four (heap_four HBX.out (.int .i64 2) (.string s) (.int .i64 0) (.slice none 0 0))
        refine ⟨_, results_cellt (t := 4) (u := 5) (T := 45) (p := ⟨w.heap.size, 0, none⟩) rfl rfl (loadVar24 _ _ _ _ _ _ h0 h1 h2 h3), ?_⟩
        rw [HR.out]
        exact HF.out
      by_cases q58 : x = 58
      · have HR : Hid (Rp.markD A (x :: []) = (Rp.devP (-9223372036854775808) 9223372036854775807 []).map fun n => .mk 3 [] n []) := Lib.hid (by subst q58; rfl)
        have hn : (x.toNat : Int) = 58 := by rw [q58]; rfl
        rw [hn] at hx
        clear q58 hn
        gi_wp2_with (rw [HW2.out]; refine ⟨trivial, rfl, ?_⟩; refine (HNU.out).mono ?_; rintro e w3 ho; obtain ⟨n, c, rfl, hbx, hf⟩ := HN.out _ _ ho; have HBX := Lib.hid hbx; have HF := Lib.hid hf; clear hf; obtain ⟨b0, b1, b2, b3, f0, f1, f2, f3⟩ := cells_four' hbx; clear hbx ho)
        obtain ⟨h0, h1, h2, h3⟩ := cells_four (heap_four HBX.out (.int .i64 3) (.string ⟨#[]⟩) (.int .i64 n) (.slice none 0 0))
        refine ⟨_, results_cellt (t := 4) (u := 5) (T := 45) (p := ⟨w.heap.size, 0, none⟩) rfl rfl (loadVar24 _ _ _ _ _ _ h0 h1 h2 h3), ?_⟩
        rw [HR.out]
        exact HF.out
      by_cases q36 : x = 36
      · have HR : Hid (Rp.markD A (x :: []) = Rp.bulkD []) := Lib.hid (by subst q36; rfl)
        have hn : (x.toNat : Int) = 36 := by rw [q36]; rfl
        rw [hn] at hx
        clear q36 hn
        gi_wp2_with (rw [HW2.out]; refine ⟨trivial, rfl, ?_⟩; refine (HBU.out).mono ?_; rintro e w3 ho; obtain ⟨k, s, n, a, m, cap', c, rfl, hbx, hf⟩ := HB.out _ _ _ ho; have HBX := Lib.hid hbx; have HF := Lib.hid hf; clear hf; obtain ⟨b0, b1, b2, b3, f0, f1, f2, f3⟩ := cells_four' hbx; clear hbx ho)
        obtain ⟨h0, h1, h2, h3⟩ := cells_four (heap_four HBX.out (.int .i64 k) (.string s) (.int .i64 n) (.slice a m cap'))
        refine ⟨_, results_cellt (t := 4) (u := 5) (T := 45) (p := ⟨w.heap.size, 0, none⟩) rfl rfl (loadVar24 _ _ _ _ _ _ h0 h1 h2 h3), ?_⟩
        rw [HR.out]
        exact HF.out
      by_cases q42 : x = 42
      · have HR : Hid (Rp.markD A (x :: []) = A []) := Lib.hid (by subst q42; rfl)
        have hn : (x.toNat : Int) = 42 := by rw [q42]; rfl
        rw [hn] at hx
        clear q42 hn
        gi_wp2_with (rw [HW2.out]; refine ⟨trivial, rfl, ?_⟩; refine (HAR.out).mono ?_; rintro e w3 ho; obtain ⟨k, s, n, a, m, cap', c, rfl, hbx, hf⟩ := HB.out _ _ _ ho; have HBX := Lib.hid hbx; have HF := Lib.hid hf; clear hf; obtain ⟨b0, b1, b2, b3, f0, f1, f2, f3⟩ := cells_four' hbx; clear hbx ho)
        obtain ⟨h0, h1, h2, h3⟩ := cells_four (heap_four HBX.out (.int .i64 k) (.string s) (.int .i64 n) (.slice a m cap'))
        refine ⟨_, results_cellt (t := 4) (u := 5) (T := 45) (p := ⟨w.heap.size, 0, none⟩) rfl rfl (loadVar24 _ _ _ _ _ _ h0 h1 h2 h3), ?_⟩
        rw [HR.out]
        exact HF.out
      have HR : Hid (Rp.markD A (x :: []) = .err 5) := Lib.hid (by simp [Rp.markD, q43, q45, q58, q36, q42])
      have n43 : ¬ (x.toNat : Int) = 43 := fun e => q43 (UInt8.toNat_inj.1 (by rw [show x.toNat = 43 by omega]; rfl))
      have n45 : ¬ (x.toNat : Int) = 45 := fun e => q45 (UInt8.toNat_inj.1 (by rw [show x.toNat = 45 by omega]; rfl))
      have n58 : ¬ (x.toNat : Int) = 58 := fun e => q58 (UInt8.toNat_inj.1 (by rw [show x.toNat = 58 by omega]; rfl))
      have n36 : ¬ (x.toNat : Int) = 36 := fun e => q36 (UInt8.toNat_inj.1 (by rw [show x.toNat = 36 by omega]; rfl))
      have n42 : ¬ (x.toNat : Int) = 42 := fun e => q42 (UInt8.toNat_inj.1 (by rw [show x.toNat = 42 by omega]; rfl))
      clear q43 q45 q58 q36 q42
      obtain ⟨b0, b1, b2, b3, f0, f1, f2, f3⟩ := cells_four' HB2.out
      gi_wp2
      rw [HW2.out]
      obtain ⟨h0, h1, h2, h3⟩ := cells_four HB2.out
      refine ⟨_, results_cellt (t := 4) (u := 5) (T := 45) (p := ⟨w.heap.size, 0, none⟩) rfl rfl (loadVar24 _ _ _ _ _ _ h0 h1 h2 h3), ?_⟩
      rw [HR.out]
      exact ⟨HK2.out, by omega, _, _, _, _, _, _, rfl⟩
    · have hst : Rst S Pb (w.setCell ⟨Pb, 0, none⟩ (.slice (some ⟨g, o + 1, none⟩) b.length (cap - 1))) b := Rst.set hbx hS (by rw [if_neg hc1] at hbd; exact hbd)
      obtain ⟨W2, hW2⟩ : ∃ W2, (w.setCell ⟨Pb, 0, none⟩ (.slice (some ⟨g, o + 1, none⟩) b.length (cap - 1))).alloc (.cells #[.int .i64 0, .string ⟨#[]⟩, .int .i64 0, .slice none 0 0] 45) = W2 := ⟨_, rfl⟩
      have hk2 : Keeps (fun k => k ≠ Pb) w W2 := by rw [← hW2]; exact ((Keeps.refl _ w).setCell (.inr fun h => h rfl) _).alloc _
      have hs2 : W2.heap.size = w.heap.size + 1 := by rw [← hW2]; simp
      have hb2 : W2.heap[w.heap.size]? = some Z4 := by
        rw [← hW2]
        have := World.alloc_heap_new (w.setCell ⟨Pb, 0, none⟩ (.slice (some ⟨g, o + 1, none⟩) b.length (cap - 1))) (.cells #[.int .i64 0, .string ⟨#[]⟩, .int .i64 0, .slice none 0 0] 45)
        rwa [show (w.setCell ⟨Pb, 0, none⟩ (.slice (some ⟨g, o + 1, none⟩) b.length (cap - 1))).heap.size = w.heap.size by simp] at this
      have hr2 : Rst S Pb W2 b := by rw [← hW2]; exact hst.keeps ((Keeps.refl (fun _ => True) _).alloc _) (fun _ _ => trivial) trivial
      have he2 : Env W2 := henv.keeps hk2 (fun k hk => by omega)
      have hlt2 : ∀ k, S k → k < W2.heap.size := fun k hk => by have := hSlt k hk; omega
      have hsf : Rp.IsSuf b (x :: b) := Rp.IsSuf.tail x _
      have HLI := Lib.hid ((callsIn_wide (n := 0)).2 (line_any S Pb b W2 hr2 hS hlt2 he2 (hia _ hsf)))
      have HNU := Lib.hid ((callsIn_wide (n := 0)).2 (rpNumber_any S Pb b (-9223372036854775808) 9223372036854775807 W2 hr2 hS hlt2 (by omega) (by omega) (by omega) (by omega) he2))
      have HBU := Lib.hid ((callsIn_wide (n := 0)).2 (bulk_any S Pb b W2 hr2 hS hlt2 he2))
      have HAR := Lib.hid (hA b W2 hsf hr2 he2 hlt2)
      have TT := fun e w3 h => told_text (e := e) (w3 := w3) (o := Rp.lineP b) hk2 hs2 hb2 hPb hSlt (fun s t h => lineP_len h) (fun c h => by have := lineP_err h; omega) h
      have TN := fun e w3 h => told_num (e := e) (w3 := w3) (o := Rp.devP (-9223372036854775808) 9223372036854775807 b) hk2 hs2 hb2 hPb hSlt (fun n t h => by have := devP_range h; omega) (fun c h => by have := devP_err h; omega) h
      have TB := fun o e w3 h => told_rep (e := e) (w3 := w3) (o := o) hk2 hs2 hb2 hPb hSlt h
      have HT := Lib.hid TT
      have HN := Lib.hid TN
      have HB := Lib.hid TB
      have HW2 := Lib.hid hW2
      have HR2 := Lib.hid hr2
      have HK2 := Lib.hid hk2
      have HB2 := Lib.hid hb2
      have HSZ := Lib.hid hs2
      clear hW2 hk2 hs2 hb2 hr2 he2 hlt2 hsf TT TN TB hbx hbt hkZ hbZ hst hbd hcs hia hA henv
      by_cases q43 : x = 43
      · have HR : Hid (Rp.markD A (x :: b) = (Rp.lineP b).map fun s => .mk 1 s 0 []) := Lib.hid (by subst q43; rfl)
        have hn : (x.toNat : Int) = 43 := by rw [q43]; rfl
        rw [hn] at hx
        clear q43 hn
        gi_wp2_with (rw [HW2.out]; refine ⟨trivial, rfl, ?_⟩; refine (HLI.out).mono ?_; rintro e w3 ho; obtain ⟨s, c, rfl, hbx, hf⟩ := HT.out _ _ ho; have HBX := Lib.hid hbx; have HF := Lib.hid (hf 1 (by omega) (by omega)); clear hf; obtain ⟨b0, b1, b2, b3, f0, f1, f2, f3⟩ := cells_four' hbx; clear hbx ho)
        obtain ⟨h0, h1, h2, h3⟩ := cells_four (heap_four HBX.out (.int .i64 1) (.string s) (.int .i64 0) (.slice none 0 0))
        refine ⟨_, results_cellt (t := 4) (u := 5) (T := 45) (p := ⟨w.heap.size, 0, none⟩) rfl rfl (loadVar24 _ _ _ _ _ _ h0 h1 h2 h3), ?_⟩
        rw [HR.out]
        exact HF.out
      by_cases q45 : x = 45
      · have HR : Hid (Rp.markD A (x :: b) = (Rp.lineP b).map fun s => .mk 2 s 0 []) := Lib.hid (by subst q45; rfl)
        have hn : (x.toNat : Int) = 45 := by rw [q45]; rfl
        rw [hn] at hx
        clear q45 hn
        gi_wp2_with (rw [HW2.out]; refine ⟨trivial, rfl, ?_⟩; refine (HLI.out).mono ?_; rintro e w3 ho; obtain ⟨s, c, rfl, hbx, hf⟩ := HT.out _ _ ho; have HBX := Lib.hid hbx; have HF := Lib.hid (hf 2 (by omega) (by omega)); clear hf; obtain ⟨b0, b1, b2, b3, f0, f1, f2, f3⟩ := cells_four' hbx; clear hbx ho)
        obtain ⟨h0, h1, h2, h3⟩ := cells_four (heap_four HBX.out (.int .i64 2) (.string s) (.int .i64 0) (.slice none 0 0))
        refine ⟨_, results_cellt (t := 4) (u := 5) (T := 45) (p := ⟨w.heap.size, 0, none⟩) rfl rfl (loadVar24 _ _ _ _ _ _ h0 h1 h2 h3), ?_⟩
        rw [HR.out]
        exact HF.out
      by_cases q58 : x = 58
      · have HR : Hid (Rp.markD A (x :: b) = (Rp.devP (-9223372036854775808) 9223372036854775807 b).map fun n => .mk 3 [] n []) := Lib.hid (by subst q58; rfl)
        have hn : (x.toNat : Int) = 58 := by rw [q58]; rfl
        rw [hn] at hx
        clear q58 hn
        gi_wp2_with (rw [HW2.out]; refine ⟨trivial, rfl, ?_⟩; refine (HNU.out).mono ?_; rintro e w3 ho; obtain ⟨n, c, rfl, hbx, hf⟩ := HN.out _ _ ho; have HBX := Lib.hid hbx; have HF := Lib.hid hf; clear hf; obtain ⟨b0, b1, b2, b3, f0, f1, f2, f3⟩ := cells_four' hbx; clear hbx ho)
        obtain ⟨h0, h1, h2, h3⟩ := cells_four (heap_four HBX.out (.int .i64 3) (.string ⟨#[]⟩) (.int .i64 n) (.slice none 0 0))
        refine ⟨_, results_cellt (t := 4) (u := 5) (T := 45) (p := ⟨w.heap.size, 0, none⟩) rfl rfl (loadVar24 _ _ _ _ _ _ h0 h1 h2 h3), ?_⟩
        rw [HR.out]
        exact HF.out
      by_cases q36 : x = 36
      · have HR : Hid (Rp.markD A (x :: b) = Rp.bulkD b) := Lib.hid (by subst q36; rfl)
        have hn : (x.toNat : Int) = 36 := by rw [q36]; rfl
        rw [hn] at hx
        clear q36 hn
        gi_wp2_with (rw [HW2.out]; refine ⟨trivial, rfl, ?_⟩; refine (HBU.out).mono ?_; rintro e w3 ho; obtain ⟨k, s, n, a, m, cap', c, rfl, hbx, hf⟩ := HB.out _ _ _ ho; have HBX := Lib.hid hbx; have HF := Lib.hid hf; clear hf; obtain ⟨b0, b1, b2, b3, f0, f1, f2, f3⟩ := cells_four' hbx; clear hbx ho)
        obtain ⟨h0, h1, h2, h3⟩ := cells_four (heap_four HBX.out (.int .i64 k) (.string s) (.int .i64 n) (.slice a m cap'))
        refine ⟨_, results_cellt (t := 4) (u := 5) (T := 45) (p := ⟨w.heap.size, 0, none⟩) rfl rfl (loadVar24 _ _ _ _ _ _ h0 h1 h2 h3), ?_⟩
        rw [HR.out]
        exact HF.out
      by_cases q42 : x = 42
      · have HR : Hid (Rp.markD A (x :: b) = A b) := Lib.hid (by subst q42; rfl)
        have hn : (x.toNat : Int) = 42 := by rw [q42]; rfl
        rw [hn] at hx
        clear q42 hn
        gi_wp2_with (rw [HW2.out]; refine ⟨trivial, rfl, ?_⟩; refine (HAR.out).mono ?_; rintro e w3 ho; obtain ⟨k, s, n, a, m, cap', c, rfl, hbx, hf⟩ := HB.out _ _ _ ho; have HBX := Lib.hid hbx; have HF := Lib.hid hf; clear hf; obtain ⟨b0, b1, b2, b3, f0, f1, f2, f3⟩ := cells_four' hbx; clear hbx ho)
        obtain ⟨h0, h1, h2, h3⟩ := cells_four (heap_four HBX.out (.int .i64 k) (.string s) (.int .i64 n) (.slice a m cap'))
        refine ⟨_, results_cellt (t := 4) (u := 5) (T := 45) (p := ⟨w.heap.size, 0, none⟩) rfl rfl (loadVar24 _ _ _ _ _ _ h0 h1 h2 h3), ?_⟩
        rw [HR.out]
        exact HF.out
      have HR : Hid (Rp.markD A (x :: b) = .err 5) := Lib.hid (by simp [Rp.markD, q43, q45, q58, q36, q42])
      have n43 : ¬ (x.toNat : Int) = 43 := fun e => q43 (UInt8.toNat_inj.1 (by rw [show x.toNat = 43 by omega]; rfl))
      have n45 : ¬ (x.toNat : Int) = 45 := fun e => q45 (UInt8.toNat_inj.1 (by rw [show x.toNat = 45 by omega]; rfl))
      have n58 : ¬ (x.toNat : Int) = 58 := fun e => q58 (UInt8.toNat_inj.1 (by rw [show x.toNat = 58 by omega]; rfl))
      have n36 : ¬ (x.toNat : Int) = 36 := fun e => q36 (UInt8.toNat_inj.1 (by rw [show x.toNat = 36 by omega]; rfl))
      have n42 : ¬ (x.toNat : Int) = 42 := fun e => q42 (UInt8.toNat_inj.1 (by rw [show x.toNat = 42 by omega]; rfl))
      clear q43 q45 q58 q36 q42
      obtain ⟨b0, b1, b2, b3, f0, f1, f2, f3⟩ := cells_four' HB2.out
      gi_wp2
      rw [HW2.out]
      obtain ⟨h0, h1, h2, h3⟩ := cells_four HB2.out
      refine ⟨_, results_cellt (t := 4) (u := 5) (T := 45) (p := ⟨w.heap.size, 0, none⟩) rfl rfl (loadVar24 _ _ _ _ _ _ h0 h1 h2 h3), ?_⟩
      rw [HR.out]
      exact ⟨HK2.out, by omega, _, _, _, _, _, _, rfl⟩

end Go.Proofs.YtbkhnnjjpelfcaaGreatDoor
namespace Go.Proofs.YtbkhnnjjpelfcaaGreatDoor
open Go.RowKit Go.Shelf

/-- THE READER's CONTRACT: a reply, so many levels deep at most. -/
theorem reply_any (S : Nat → Prop) (Pb : Nat) (hS : ¬ S Pb) (hPb8 : 8 ≤ Pb) : ∀ (d : Nat) (bs : List UInt8) (w : World), d ≤ 1000 → Rst S Pb w bs → (∀ k, S k → k < w.heap.size) → Env w → (∀ t, Rp.IsSuf t bs → IA (t.take 512)) →
    CallsIn Fence.wide 0 Tryz.prog 31 #[.pointer (some ⟨Pb, 0, none⟩), .int .i64 d] w (ROut S Pb w (Rp.replyD d bs))
  | 0, bs, w, _, h, hSlt, henv, hia => by
    rw [show ((0 : Nat) : Int) = 0 from rfl, Rp.replyD]
    exact mark_any 0 _ S Pb bs w h hS hSlt henv hPb8 hia fun _ w' _ _ _ _ => array_zero S Pb w'
  | d + 1, bs, w, hd, h, hSlt, henv, hia => by
    have ih := reply_any S Pb hS hPb8 d
    rw [Int.natCast_succ, Rp.replyD]
    exact mark_any ((d : Int) + 1) _ S Pb bs w h hS hSlt henv hPb8 hia fun b w' hb hr he hs =>
      array_any d (by omega) (Rp.replyD d) S Pb b w' hr hS hs he hPb8 (fun _ _ _ h => Rp.replyD_suf d h) (fun _ _ h => Rp.devP_suf h) fun b' w'' hb' hr' he' hs' =>
        ih b' w'' (by omega) hr' hs' he' fun t ht => hia t (ht.trans (hb'.trans hb))
end Go.Proofs.YtbkhnnjjpelfcaaGreatDoor
