/- A row of claims of the call's own; the contract of claims.added. -/
import Derived.Test.YtchladbjhodkoaaOwPieces
import Derived.Deep.AppendLies
import Derived.Laws.OwnMore
namespace Go.Proofs.Ytchladbjhodkoaa
open Go.RowKit Go.Shelf

def flat4 (l : List Ow.C) : List Value := l.flatMap fun c => [.int .i64 c.f, .int .i64 c.t, .int .i64 c.n, .int .i64 c.e]

theorem flat4_length (l : List Ow.C) : (flat4 l).length = l.length * 4 := by
  induction l with
  | nil => rfl
  | cons c l ih => unfold flat4 at ih ⊢; rw [List.flatMap_cons, List.length_append, ih]; simp; omega

theorem flat4_get : ∀ (l : List Ow.C) (k : Nat), k < l.length → (flat4 l)[k * 4]? = some (.int .i64 (l.getD k Ow.z).f) ∧ (flat4 l)[k * 4 + 1]? = some (.int .i64 (l.getD k Ow.z).t) ∧ (flat4 l)[k * 4 + 2]? = some (.int .i64 (l.getD k Ow.z).n) ∧ (flat4 l)[k * 4 + 3]? = some (.int .i64 (l.getD k Ow.z).e)
  | [], k, h => by simp at h
  | c :: l, 0, _ => ⟨rfl, rfl, rfl, rfl⟩
  | c :: l, k + 1, h => by
    have := flat4_get l k (by simpa using h)
    have e : flat4 (c :: l) = .int .i64 c.f :: .int .i64 c.t :: .int .i64 c.n :: .int .i64 c.e :: flat4 l := rfl
    rw [e, show (k + 1) * 4 = k * 4 + 1 + 1 + 1 + 1 by omega]
    simpa using this

theorem flat4_snoc (l : List Ow.C) (c : Ow.C) : flat4 (l ++ [c]) = flat4 l ++ [.int .i64 c.f, .int .i64 c.t, .int .i64 c.n, .int .i64 c.e] := by simp [flat4]

theorem flat4_set (l : List Ow.C) (b c : Ow.C) : (flat4 (l ++ [b])).set (l.length * 4 + 1) (.int .i64 c.t) = flat4 (l ++ [{ b with t := c.t }]) := by
  rw [flat4_snoc, flat4_snoc, ← flat4_length, List.set_append, if_neg (by omega)]
  simp

/-- the cells of a row of claims of the call's own. -/
theorem owns4 {w : World} {B : Nat} {v : Value} {l : List Ow.C} (h : w.ownsRow B 49 4 v l.length (flat4 l)) (hl : 0 < l.length) :
    ∃ g cap, v = .slice (some ⟨g, 0, none⟩) l.length cap ∧ B ≤ g ∧ g < w.heap.size ∧ l.length ≤ cap ∧ cap ≤ 9223372036854775807 ∧ (∀ k, k < l.length → C4 w g (k * 4) (l.getD k Ow.z)) ∧ ∀ o, w.frozen? ⟨g, o, none⟩ = false := by
  rcases h.2 with ⟨_, h0⟩ | ⟨g, cap, cur, rfl, hb, hg, hn, hcap, hsz, htake⟩
  · omega
  · refine ⟨g, cap, rfl, hb, (Array.getElem?_eq_some_iff.1 hg).1, hn, hcap, fun k hk => ?_, fun o => by simp [World.frozen?, hg]⟩
    obtain ⟨h1, h2, h3, h4⟩ := flat4_get l k hk
    rw [← htake, List.getElem?_take] at h1 h2 h3 h4
    rw [if_pos (by omega)] at h1 h2 h3 h4
    unfold C4
    rw [cell_of_row w g _ cur _ (0, 0) hg, cell_of_row w g _ cur _ (0, 0) hg, cell_of_row w g _ cur _ (0, 0) hg, cell_of_row w g _ cur _ (0, 0) hg]
    exact ⟨by simpa using h1, by simpa using h2, by simpa using h3, by simpa using h4⟩

theorem cls_of_row {w : World} {B : Nat} {v : Value} {l : List Ow.C} (h : w.ownsRow B 49 4 v l.length (flat4 l)) (hf : ∀ c ∈ l, Ow.FitC c) :
    ∃ a cap, v = .slice a l.length cap ∧ Cls w a cap l ∧ (∀ x, a = some x → B ≤ x.block ∧ x.block < w.heap.size) := by
  by_cases hl : 0 < l.length
  · obtain ⟨g, cap, rfl, h1, h2, h3, h4, h5, _⟩ := owns4 h hl
    refine ⟨_, cap, rfl, ⟨h3, h4, hf, .inr ⟨g, 0, rfl, h2, fun k hk => by rw [Nat.zero_add]; exact h5 k hk⟩⟩, fun x hx => by cases hx; exact ⟨h1, h2⟩⟩
  · have hz : l = [] := List.eq_nil_of_length_eq_zero (by omega)
    subst hz
    rcases h.2 with ⟨rfl, _⟩ | ⟨g, cap, cur, rfl, hb, hg, hn, hcap, _⟩
    · exact ⟨none, 0, rfl, cls_nil w, by simp⟩
    · exact ⟨_, cap, rfl, ⟨by simp, hcap, by simp, .inl rfl⟩, fun x hx => by cases hx; exact ⟨hb, (Array.getElem?_eq_some_iff.1 hg).1⟩⟩

theorem infoClaim : (Try.prog.info? 49).map (fun i => (i.zero, i.size, i.bytes)) = some (some (.agg #[.int .i64 0, .int .i64 0, .int .i64 0, .int .i64 0]), 4, 32) := by kernel_rfl

/-- what a call leaves that puts a claim behind a row of claims of its caller's own. -/
def MoreOut (w : World) (B : Nat) (v : Value) (l : List Ow.C) (c : Ow.C) (e : Ending) (w' : World) : Prop :=
  ∃ v', e = .returned v' ∧ w'.ownsRow B 49 4 v' (Ow.more l c).length (flat4 (Ow.more l c)) ∧ Keeps (fun k => some k ≠ v.ownBlock) w w' ∧ (v'.ownBlock = v.ownBlock ∨ ∃ g, v'.ownBlock = some g ∧ w.heap.size ≤ g)

theorem quad_news (w : World) (B : Nat) (hB : w.heap.size = B) (x y z u : Value) (t : TypeId) : ∀ j q, [x, y, z, u][j]? = some q → (w.alloc (.cells #[x, y, z, u] t)).cell? ((⟨B, 0, none⟩ : Addr).add j) = some q := by
  subst hB
  intro j q hq
  have hb := World.alloc_heap_new w (.cells #[x, y, z, u] t)
  have hadd : (⟨w.heap.size, 0, none⟩ : Addr).add j = ⟨w.heap.size, j, none⟩ := by unfold Addr.add; split <;> simp_all
  rw [hadd, cell_of_row _ _ j _ _ _ hb]
  simpa using hq

theorem more_app {w wa w1 : World} {B : Nat} {v v' : Value} {l : List Ow.C} {c : Ow.C} (hm : Ow.more l c = l ++ [c]) (hk : Keeps (fun k => some k ≠ v.ownBlock) w wa)
    (h1 : w1.ownsRow B 49 4 v' (l.length + 1) (flat4 l ++ [.int .i64 c.f, .int .i64 c.t, .int .i64 c.n, .int .i64 c.e])) (hg : wa.grownBy w1 v.ownBlock) (ha : v'.ownBlock = v.ownBlock ∨ v'.ownBlock = some wa.heap.size) : MoreOut w B v l c (.returned v') w1 := by
  refine ⟨v', rfl, ?_, hk.trans ((Keeps.of_grown hg fun r e => by rw [e]; simp)), ha.imp id (fun h => ⟨_, h, hk.size⟩)⟩
  rw [hm, flat4_snoc, List.length_append]
  exact h1

theorem more_store {w wa : World} {B g cap : Nat} {l : List Ow.C} {b c : Ow.C} (ht : Ow.touch b c = true) (hown : w.ownsRow B 49 4 (.slice (some ⟨g, 0, none⟩) (l ++ [b]).length cap) (l ++ [b]).length (flat4 (l ++ [b]))) (hb : Below w.heap.size w wa) :
    MoreOut w B (.slice (some ⟨g, 0, none⟩) (l ++ [b]).length cap) (l ++ [b]) c (.returned (.slice (some ⟨g, 0, none⟩) (l ++ [b]).length cap)) (wa.setCell ⟨g, l.length * 4 + 1, none⟩ (.int .i64 c.t)) := by
  have hk : Keeps (fun k => some k ≠ (Value.slice (some ⟨g, 0, none⟩) (l ++ [b]).length cap).ownBlock) w wa := Keeps.of_below hb fun k h _ => h
  have how : wa.ownsRow B 49 4 (.slice (some ⟨g, 0, none⟩) (l ++ [b]).length cap) (l ++ [b]).length (flat4 (l ++ [b])) := by
    refine ⟨hown.1, ?_⟩
    rcases hown.2 with h | ⟨g', cap', cur, h1, h2, h3, h4⟩
    · exact .inl h
    · exact .inr ⟨g', cap', cur, h1, h2, (hb.block g' (Array.getElem?_eq_some_iff.1 h3).1).trans h3, h4⟩
  have h1 := (how.stored (l.length * 4 + 1) (.int .i64 c.t)).1
  refine ⟨_, rfl, ?_, hk.setCell (.inr (by simp [Value.ownBlock])) _, .inl rfl⟩
  rw [Ow.more_snoc, if_pos ht, ← flat4_set]
  simp only [List.length_append, List.length_cons, List.length_nil] at h1 ⊢
  exact h1

theorem owns_below {w w' : World} {B : Nat} {e : TypeId} {s : Nat} {v : Value} {n : Nat} {xs : List Value} (h : w.ownsRow B e s v n xs) (hb : Below w.heap.size w w') : w'.ownsRow B e s v n xs := by
  refine ⟨h.1, ?_⟩
  rcases h.2 with h | ⟨g', cap', cur, h1, h2, h3, h4⟩
  · exact .inl h
  · exact .inr ⟨g', cap', cur, h1, h2, (hb.block g' (Array.getElem?_eq_some_iff.1 h3).1).trans h3, h4⟩

set_option maxRecDepth 100000 in
set_option maxHeartbeats 2000000 in
theorem added_nil (B : Nat) (v : Value) (c : Ow.C) (w : World) (hB : B ≤ w.heap.size) (hown : w.ownsRow B 49 4 v 0 []) :
    Calls Try.prog 49 #[v, .agg #[.int .i64 c.f, .int .i64 c.t, .int .i64 c.n, .int .i64 c.e]] w (MoreOut w B v [] c) := by
  obtain ⟨i0, hi, hz0, hz1, hz2⟩ := info_parts infoClaim
  obtain ⟨a, cap, rfl, -, -⟩ := cls_of_row (l := []) hown (by simp)
  have HO := Lib.hid hown
  clear hown
  go_enter Try.func49, Try.ntmps49
  go_wp2
  go_quiet (fail)
  have hk0 : Keeps (fun k => some k ≠ (Value.slice a 0 cap).ownBlock) w ((w.alloc (.cells #[.int .i64 c.f, .int .i64 c.t, .int .i64 c.n, .int .i64 c.e] 49)).drewN nq) := Keeps.of_below (below_drewN ((Below.refl _ w).alloc (Nat.le_refl _) _) _) fun k h _ => h
  have c1 : ((w.alloc (.cells #[.int .i64 c.f, .int .i64 c.t, .int .i64 c.n, .int .i64 c.e] 49)).drewN nq).cell? ⟨w.heap.size, 0, none⟩ = some (.int .i64 c.f) := by rw [World.cell?_drewN, World.cell?_alloc_new]; rfl
  have c2 : ((w.alloc (.cells #[.int .i64 c.f, .int .i64 c.t, .int .i64 c.n, .int .i64 c.e] 49)).drewN nq).cell? ⟨w.heap.size, 1, none⟩ = some (.int .i64 c.t) := by rw [World.cell?_drewN, World.cell?_alloc_new]; rfl
  have c3 : ((w.alloc (.cells #[.int .i64 c.f, .int .i64 c.t, .int .i64 c.n, .int .i64 c.e] 49)).drewN nq).cell? ⟨w.heap.size, 2, none⟩ = some (.int .i64 c.n) := by rw [World.cell?_drewN, World.cell?_alloc_new]; rfl
  have c4 : ((w.alloc (.cells #[.int .i64 c.f, .int .i64 c.t, .int .i64 c.n, .int .i64 c.e] 49)).drewN nq).cell? ⟨w.heap.size, 3, none⟩ = some (.int .i64 c.e) := by rw [World.cell?_drewN, World.cell?_alloc_new]; rfl
  have ho : ((w.alloc (.cells #[.int .i64 c.f, .int .i64 c.t, .int .i64 c.n, .int .i64 c.e] 49)).drewN nq).ownsRow B 49 4 (Value.slice a 0 cap) 0 [] := (HO.out.alloc _)
  generalize (w.alloc (.cells #[.int .i64 c.f, .int .i64 c.t, .int .i64 c.n, .int .i64 c.e] 49)).drewN nq = wq at *
  have hsz := hk0.size
  have HK := Lib.hid hk0
  clear hk0
  go_wp2_with (at_builtin; refine wpList_append_own_at _ rfl (.tmp 27) (.tmp 29) 22 rfl B 49 i0 (.agg #[.int .i64 0, .int .i64 0, .int .i64 0, .int .i64 0]) 4 32 Try.underlying22 hi hz0 hz1 hz2 rfl (by decide) _ _ _ rfl (ho.alloc _) ⟨wq.heap.size, 0, none⟩ 1 1 [.int .i64 c.f, .int .i64 c.t, .int .i64 c.n, .int .i64 c.e] rfl rfl ?c1 ?c2 ?c3 ?c4 ?c5 ?_)
  case c1 => exact quad_news _ _ rfl _ _ _ _ _
  case c2 => intro u hu; simp at hu; rcases hu with rfl | rfl | rfl | rfl <;> rfl
  case c3 => decide
  case c4 => omega
  case c5 => simp; omega
  intro v' w1 hown1 hgrow _ hat
  have HF := Lib.hid (more_app (c := c) (l := []) (wa := wq.alloc (.cells #[.int .i64 c.f, .int .i64 c.t, .int .i64 c.n, .int .i64 c.e] 49)) rfl (HK.out.alloc _) hown1 hgrow (hat.imp id (fun h => by rw [h, World.size_alloc])))
  clear hown1 hgrow hat
  go_wp2
  go_ret
  exact HF.out

set_option maxRecDepth 100000 in
set_option maxHeartbeats 2000000 in
/-- where the last claim goes on. -/
theorem added_touch (B : Nat) (v : Value) (l : List Ow.C) (b c : Ow.C) (w : World) (hl : (l ++ [b]).length ≤ 1000000) (hbt : -9223372036854775808 ≤ b.t ∧ b.t < 9223372036854775807) (ht : Ow.touch b c = true) (hown : w.ownsRow B 49 4 v (l ++ [b]).length (flat4 (l ++ [b]))) :
    Calls Try.prog 49 #[v, .agg #[.int .i64 c.f, .int .i64 c.t, .int .i64 c.n, .int .i64 c.e]] w (MoreOut w B v (l ++ [b]) c) := by
  obtain ⟨g, cap, rfl, hg, hgs, hcap, hcm, hc4, hfz⟩ := owns4 hown (by simp)
  have HO := Lib.hid hown
  obtain ⟨c1, c2, c3, c4⟩ := hc4 l.length (by simp)
  have e1 : (l ++ [b]).getD l.length Ow.z = b := by simp [List.getD]
  rw [e1] at c1 c2 c3 c4
  have hz := hfz (l.length * 4 + 1)
  have HCON : Hid (∀ W, Calls Try.prog 32 #[.agg #[.int .i64 b.f, .int .i64 b.t, .int .i64 b.n, .int .i64 b.e], .agg #[.int .i64 c.f, .int .i64 c.t, .int .i64 c.n, .int .i64 c.e]] W fun e W' => e = .returned (.bool true) ∧ Below W.heap.size W W') := Lib.hid fun W => by
    have := continues_any b c W hbt.1 hbt.2
    rwa [ht] at this
  have HST := Lib.hid (fun wa (hb : Below w.heap.size w wa) => more_store (c := c) ht HO.out hb)
  clear hown hc4 hfz e1 hbt
  have hlen : (l ++ [b]).length = l.length + 1 := by simp
  rw [hlen] at hl hcap HST ⊢
  generalize MoreOut w B (.slice (some ⟨g, 0, none⟩) (l.length + 1) cap) (l ++ [b]) c = Q at *
  generalize l.length = m at *
  obtain ⟨bf, bt, bn, be⟩ := b
  obtain ⟨cf, ct, cn, ce⟩ := c
  simp only at c1 c2 c3 c4 HCON HST ⊢
  clear ht hlen HO
  have hcI : (0 : Int) < ((m + 1 : Nat) : Int) := by omega
  have hwI : IntKind.i64.wrap ((m : Int) + 1 - 1) = (m : Int) := by rw [IntWalk.i64_in _ (by omega)]; omega
  have hwJ : IntKind.i64.wrap (m : Int) = (m : Int) := IntWalk.i64_in _ (by omega)
  have hm0 : (0 : Int) ≤ (m : Int) := by omega
  have hm1 : (m : Int) < (m : Int) + 1 := by omega
  go_enter Try.func49, Try.ntmps49
  go_wp2
  have hbw : Below w.heap.size w (w.alloc (.cells #[.int .i64 cf, .int .i64 ct, .int .i64 cn, .int .i64 ce] 49)) := (Below.refl _ w).alloc (Nat.le_refl _) _
  have k1 : (w.alloc (.cells #[.int .i64 cf, .int .i64 ct, .int .i64 cn, .int .i64 ce] 49)).cell? ⟨w.heap.size, 0, none⟩ = some (.int .i64 cf) := by rw [World.cell?_alloc_new]; rfl
  have k2 : (w.alloc (.cells #[.int .i64 cf, .int .i64 ct, .int .i64 cn, .int .i64 ce] 49)).cell? ⟨w.heap.size, 1, none⟩ = some (.int .i64 ct) := by rw [World.cell?_alloc_new]; rfl
  have k3 : (w.alloc (.cells #[.int .i64 cf, .int .i64 ct, .int .i64 cn, .int .i64 ce] 49)).cell? ⟨w.heap.size, 2, none⟩ = some (.int .i64 cn) := by rw [World.cell?_alloc_new]; rfl
  have k4 : (w.alloc (.cells #[.int .i64 cf, .int .i64 ct, .int .i64 cn, .int .i64 ce] 49)).cell? ⟨w.heap.size, 3, none⟩ = some (.int .i64 ce) := by rw [World.cell?_alloc_new]; rfl
  have d1 := (hbw.cell (p := ⟨g, m * 4, none⟩) hgs).trans c1
  have d2 := (hbw.cell (p := ⟨g, m * 4 + 1, none⟩) hgs).trans c2
  have d3 := (hbw.cell (p := ⟨g, m * 4 + 2, none⟩) hgs).trans c3
  have d4 := (hbw.cell (p := ⟨g, m * 4 + 3, none⟩) hgs).trans c4
  have dz := (hbw.frozen (p := ⟨g, m * 4 + 1, none⟩) hgs).trans hz
  have hgb : g < (w.alloc (.cells #[.int .i64 cf, .int .i64 ct, .int .i64 cn, .int .i64 ce] 49)).heap.size := by simp; omega
  have hsb : w.heap.size < (w.alloc (.cells #[.int .i64 cf, .int .i64 ct, .int .i64 cn, .int .i64 ce] 49)).heap.size := by simp
  generalize w.alloc (.cells #[.int .i64 cf, .int .i64 ct, .int .i64 cn, .int .i64 ce] 49) = wb at *
  have HBW := Lib.hid hbw
  clear hbw c1 c2 c3 c4 hz
  go_region_held3 (fun w' => ((w'.cell? ⟨g, m * 4, none⟩ = some (.int .i64 bf) ∧ w'.cell? ⟨g, m * 4 + 1, none⟩ = some (.int .i64 bt)) ∧ (w'.cell? ⟨g, m * 4 + 2, none⟩ = some (.int .i64 bn) ∧ w'.cell? ⟨g, m * 4 + 3, none⟩ = some (.int .i64 be))) ∧ ((w'.cell? ⟨w.heap.size, 0, none⟩ = some (.int .i64 cf) ∧ w'.cell? ⟨w.heap.size, 1, none⟩ = some (.int .i64 ct)) ∧ (w'.cell? ⟨w.heap.size, 2, none⟩ = some (.int .i64 cn) ∧ w'.cell? ⟨w.heap.size, 3, none⟩ = some (.int .i64 ce))))
    (first
      | go_keep
      | exact ⟨⟨⟨(HB1.out.cell (p := ⟨g, m * 4, none⟩) hgb).trans d1, (HB1.out.cell (p := ⟨g, m * 4 + 1, none⟩) hgb).trans d2⟩, ⟨(HB1.out.cell (p := ⟨g, m * 4 + 2, none⟩) hgb).trans d3, (HB1.out.cell (p := ⟨g, m * 4 + 3, none⟩) hgb).trans d4⟩⟩, ⟨⟨(HB1.out.cell (p := ⟨w.heap.size, 0, none⟩) hsb).trans k1, (HB1.out.cell (p := ⟨w.heap.size, 1, none⟩) hsb).trans k2⟩, ⟨(HB1.out.cell (p := ⟨w.heap.size, 2, none⟩) hsb).trans k3, (HB1.out.cell (p := ⟨w.heap.size, 3, none⟩) hsb).trans k4⟩⟩⟩)
    (first
      | (go_at_call 32; refine (HCON.out _).mono ?_; rintro e w1 ⟨rfl, hb⟩; have HB1 : Hid (Below wb.heap.size wb w1) := Lib.hid (((Below.refl _ wb).drew).trans (hb.mono (Nat.le_refl _))); clear hb))
  have HF := Lib.hid (HST.out w1 (HBW.out.trans (HB1.out.mono HBW.out.size)))
  have e1 := (HB1.out.cell (p := ⟨w.heap.size, 1, none⟩) hsb).trans k2
  have e2 := (HB1.out.frozen (p := ⟨g, m * 4 + 1, none⟩) hgb).trans dz
  have e3 := (HB1.out.cell (p := ⟨g, m * 4 + 1, none⟩) hgb).trans d2
  clear HST HCON d1 d2 d3 d4 k1 k2 k3 k4 dz
  go_wp2
  exact HF.out

set_option maxRecDepth 100000 in
set_option maxHeartbeats 2000000 in
/-- where it does not. -/
theorem added_apart (B : Nat) (v : Value) (l : List Ow.C) (b c : Ow.C) (w : World) (hl : (l ++ [b]).length ≤ 1000000) (hbt : -9223372036854775808 ≤ b.t ∧ b.t < 9223372036854775807) (ht : Ow.touch b c = false) (hown : w.ownsRow B 49 4 v (l ++ [b]).length (flat4 (l ++ [b]))) :
    Calls Try.prog 49 #[v, .agg #[.int .i64 c.f, .int .i64 c.t, .int .i64 c.n, .int .i64 c.e]] w (MoreOut w B v (l ++ [b]) c) := by
  obtain ⟨i0, hi, hz0, hz1, hz2⟩ := info_parts infoClaim
  obtain ⟨g, cap, rfl, hg, hgs, hcap, hcm, hc4, -⟩ := owns4 hown (by simp)
  obtain ⟨c1, c2, c3, c4⟩ := hc4 l.length (by simp)
  have e1 : (l ++ [b]).getD l.length Ow.z = b := by simp [List.getD]
  rw [e1] at c1 c2 c3 c4
  have HCON : Hid (∀ W, Calls Try.prog 32 #[.agg #[.int .i64 b.f, .int .i64 b.t, .int .i64 b.n, .int .i64 b.e], .agg #[.int .i64 c.f, .int .i64 c.t, .int .i64 c.n, .int .i64 c.e]] W fun e W' => e = .returned (.bool false) ∧ Below W.heap.size W W') := Lib.hid fun W => by
    have := continues_any b c W hbt.1 hbt.2
    rwa [ht] at this
  have hmr : Ow.more (l ++ [b]) c = (l ++ [b]) ++ [c] := by rw [Ow.more_snoc, ht]; simp
  have HAPP : Hid (∀ wa v' w1, Below w.heap.size w wa → w1.ownsRow B 49 4 v' ((l ++ [b]).length + 1) (flat4 (l ++ [b]) ++ [.int .i64 c.f, .int .i64 c.t, .int .i64 c.n, .int .i64 c.e]) → wa.grownBy w1 (Value.slice (some ⟨g, 0, none⟩) (l ++ [b]).length cap).ownBlock → (v'.ownBlock = (Value.slice (some ⟨g, 0, none⟩) (l ++ [b]).length cap).ownBlock ∨ v'.ownBlock = some wa.heap.size) → MoreOut w B (Value.slice (some ⟨g, 0, none⟩) (l ++ [b]).length cap) (l ++ [b]) c (.returned v') w1) :=
    Lib.hid fun wa v' w1 hb h1 h2 h3 => more_app hmr (Keeps.of_below hb fun k h _ => h) h1 h2 h3
  have HO := Lib.hid hown
  clear hown hc4 e1 hbt hmr
  have hlen : (l ++ [b]).length = l.length + 1 := by simp
  generalize flat4 (l ++ [b]) = fl at *
  rw [hlen] at hl hcap HAPP HO ⊢
  generalize MoreOut w B (.slice (some ⟨g, 0, none⟩) (l.length + 1) cap) (l ++ [b]) c = Q at *
  generalize l.length = m at *
  obtain ⟨bf, bt, bn, be⟩ := b
  obtain ⟨cf, ct, cn, ce⟩ := c
  simp only at c1 c2 c3 c4 HCON HAPP ⊢
  clear ht hlen
  have hcI : (0 : Int) < ((m + 1 : Nat) : Int) := by omega
  have hwI : IntKind.i64.wrap ((m : Int) + 1 - 1) = (m : Int) := by rw [IntWalk.i64_in _ (by omega)]; omega
  have hwJ : IntKind.i64.wrap (m : Int) = (m : Int) := IntWalk.i64_in _ (by omega)
  have hm0 : (0 : Int) ≤ (m : Int) := by omega
  have hm1 : (m : Int) < (m : Int) + 1 := by omega
  go_enter Try.func49, Try.ntmps49
  go_wp2
  have hbw : Below w.heap.size w (w.alloc (.cells #[.int .i64 cf, .int .i64 ct, .int .i64 cn, .int .i64 ce] 49)) := (Below.refl _ w).alloc (Nat.le_refl _) _
  have k1 : (w.alloc (.cells #[.int .i64 cf, .int .i64 ct, .int .i64 cn, .int .i64 ce] 49)).cell? ⟨w.heap.size, 0, none⟩ = some (.int .i64 cf) := by rw [World.cell?_alloc_new]; rfl
  have k2 : (w.alloc (.cells #[.int .i64 cf, .int .i64 ct, .int .i64 cn, .int .i64 ce] 49)).cell? ⟨w.heap.size, 1, none⟩ = some (.int .i64 ct) := by rw [World.cell?_alloc_new]; rfl
  have k3 : (w.alloc (.cells #[.int .i64 cf, .int .i64 ct, .int .i64 cn, .int .i64 ce] 49)).cell? ⟨w.heap.size, 2, none⟩ = some (.int .i64 cn) := by rw [World.cell?_alloc_new]; rfl
  have k4 : (w.alloc (.cells #[.int .i64 cf, .int .i64 ct, .int .i64 cn, .int .i64 ce] 49)).cell? ⟨w.heap.size, 3, none⟩ = some (.int .i64 ce) := by rw [World.cell?_alloc_new]; rfl
  have d1 := (hbw.cell (p := ⟨g, m * 4, none⟩) hgs).trans c1
  have d2 := (hbw.cell (p := ⟨g, m * 4 + 1, none⟩) hgs).trans c2
  have d3 := (hbw.cell (p := ⟨g, m * 4 + 2, none⟩) hgs).trans c3
  have d4 := (hbw.cell (p := ⟨g, m * 4 + 3, none⟩) hgs).trans c4
  have hgb : g < (w.alloc (.cells #[.int .i64 cf, .int .i64 ct, .int .i64 cn, .int .i64 ce] 49)).heap.size := by simp; omega
  have hsb : w.heap.size < (w.alloc (.cells #[.int .i64 cf, .int .i64 ct, .int .i64 cn, .int .i64 ce] 49)).heap.size := by simp
  generalize w.alloc (.cells #[.int .i64 cf, .int .i64 ct, .int .i64 cn, .int .i64 ce] 49) = wb at *
  have HBW := Lib.hid hbw
  clear hbw c1 c2 c3 c4
  go_region_held3 (fun w' => ((w'.cell? ⟨g, m * 4, none⟩ = some (.int .i64 bf) ∧ w'.cell? ⟨g, m * 4 + 1, none⟩ = some (.int .i64 bt)) ∧ (w'.cell? ⟨g, m * 4 + 2, none⟩ = some (.int .i64 bn) ∧ w'.cell? ⟨g, m * 4 + 3, none⟩ = some (.int .i64 be))) ∧ ((w'.cell? ⟨w.heap.size, 0, none⟩ = some (.int .i64 cf) ∧ w'.cell? ⟨w.heap.size, 1, none⟩ = some (.int .i64 ct)) ∧ (w'.cell? ⟨w.heap.size, 2, none⟩ = some (.int .i64 cn) ∧ w'.cell? ⟨w.heap.size, 3, none⟩ = some (.int .i64 ce))))
    (first
      | go_keep
      | exact ⟨⟨⟨(HB1.out.cell (p := ⟨g, m * 4, none⟩) hgb).trans d1, (HB1.out.cell (p := ⟨g, m * 4 + 1, none⟩) hgb).trans d2⟩, ⟨(HB1.out.cell (p := ⟨g, m * 4 + 2, none⟩) hgb).trans d3, (HB1.out.cell (p := ⟨g, m * 4 + 3, none⟩) hgb).trans d4⟩⟩, ⟨⟨(HB1.out.cell (p := ⟨w.heap.size, 0, none⟩) hsb).trans k1, (HB1.out.cell (p := ⟨w.heap.size, 1, none⟩) hsb).trans k2⟩, ⟨(HB1.out.cell (p := ⟨w.heap.size, 2, none⟩) hsb).trans k3, (HB1.out.cell (p := ⟨w.heap.size, 3, none⟩) hsb).trans k4⟩⟩⟩)
    (first
      | (go_at_call 32; refine (HCON.out _).mono ?_; rintro e w1 ⟨rfl, hb⟩; have HB1 : Hid (Below wb.heap.size wb w1) := Lib.hid (((Below.refl _ wb).drew).trans (hb.mono (Nat.le_refl _))); clear hb))
  have HB2 := Lib.hid (HBW.out.trans (HB1.out.mono HBW.out.size))
  have e1 := (HB1.out.cell (p := ⟨w.heap.size, 0, none⟩) hsb).trans k1
  have e2 := (HB1.out.cell (p := ⟨w.heap.size, 1, none⟩) hsb).trans k2
  have e3 := (HB1.out.cell (p := ⟨w.heap.size, 2, none⟩) hsb).trans k3
  have e4 := (HB1.out.cell (p := ⟨w.heap.size, 3, none⟩) hsb).trans k4
  have ho : w1.ownsRow B 49 4 (.slice (some ⟨g, 0, none⟩) (m + 1) cap) (m + 1) fl := owns_below HO.out HB2.out
  have hs1 := HB2.out.size
  clear HCON d1 d2 d3 d4 k1 k2 k3 k4 HB1
  go_wp2_with (at_builtin; refine wpList_append_own_at _ rfl (.tmp 27) (.tmp 29) 22 rfl B 49 i0 (.agg #[.int .i64 0, .int .i64 0, .int .i64 0, .int .i64 0]) 4 32 Try.underlying22 hi hz0 hz1 hz2 rfl (by decide) _ _ _ rfl (ho.alloc _) ⟨w1.heap.size, 0, none⟩ 1 1 [.int .i64 cf, .int .i64 ct, .int .i64 cn, .int .i64 ce] rfl rfl ?c1 ?c2 ?c3 ?c4 ?c5 ?_)
  case c1 => exact quad_news _ _ rfl _ _ _ _ _
  case c2 => intro u hu; simp at hu; rcases hu with rfl | rfl | rfl | rfl <;> rfl
  case c3 => unfold maxLen; omega
  case c4 => omega
  case c5 => simp; omega
  intro v' w2 hown1 hgrow _ hat
  have HF := Lib.hid (HAPP.out _ v' w2 (HB2.out.alloc HB2.out.size (.cells #[.int .i64 cf, .int .i64 ct, .int .i64 cn, .int .i64 ce] 49)) hown1 hgrow (hat.imp id (fun h => by rw [h, World.size_alloc])))
  clear hown1 hgrow hat HAPP
  go_wp2
  exact HF.out

theorem added_any (B : Nat) (v : Value) (l : List Ow.C) (c : Ow.C) (w : World) (hl : l.length ≤ 1000000) (hbt : ∀ b ∈ l, -9223372036854775808 ≤ b.t ∧ b.t < 9223372036854775807) (hB : B ≤ w.heap.size) (hown : w.ownsRow B 49 4 v l.length (flat4 l)) :
    Calls Try.prog 49 #[v, .agg #[.int .i64 c.f, .int .i64 c.t, .int .i64 c.n, .int .i64 c.e]] w (MoreOut w B v l c) := by
  rcases List.eq_nil_or_concat l with rfl | ⟨l', b, rfl⟩
  · exact added_nil B v c w hB hown
  · rw [List.concat_eq_append] at *
    have h1 := hbt b (by simp)
    cases ht : Ow.touch b c with
    | true => exact added_touch B v l' b c w hl h1 ht hown
    | false => exact added_apart B v l' b c w hl h1 ht hown
end Go.Proofs.Ytchladbjhodkoaa
