/- The walk of SetsOrder: in whatever order texts come, and however often, the set is one. -/
import Derived.Test.YtekdmnecjgpokaaStLit
import Derived.Test.YtekdmnecjgpokaaStLaw
import Derived.Test.YtekdmnecjgpokaaStHas
import Derived.Test.YtekdmnecjgpokaaStCntPlain
import Derived.Test.YtekdmnecjgpokaaLsTexts
import Derived.Deep.Cut
import Derived.Deep.DeepCutAuto
import Derived.Deep.DeepFit
import Derived.Deep.LoopGhost
import Derived.Deep.QuietTactic
namespace Go.Proofs.Ytekdmnecjgpokaa
open Go.RowKit Go.Shelf
attribute [local go_sem] Oper.semAt_some
set_option linter.unusedVariables false
set_option linter.unusedSimpArgs false

/-- append(l, x...) of words. -/
theorem wp_append_w {o : Oper} {a : Act} {Q : Exit → Act → World → Prop} {K : Act → World → Prop} (s x : Operand)
    (ho : o.op = .call { callee := .builtin .append, args := #[s, x], argTypes := #[25, 25] })
    {w W : World} {v : Value} {fs xs : List St.Bs} {ax : Option Addr} {c : Nat} (hs : a.eval s = v) (h : RowW w v fs W) (hx : a.eval x = .slice ax xs.length c) (hb : Wds W ax c xs) (hn : ax = Option.none → c = 0) (hl : fs.length ≤ 2000000) (hxl : xs.length ≤ 2000000)
    (hK : ∀ v' W', RowW w v' (fs ++ xs) W' → K (a.put o.dst v') W') : Oper.wp Try.prog o a W K Q := by
  obtain ⟨v', W', hr, h2⟩ := run_append_w h hb hn hl hxl o.type
  unfold Oper.wp execOp
  simp only [ho, resolve, invoke, builtin, Sem.run_bind, Sem.run_pure, Result.andThen_ok, List.map_toArray, List.map_cons, List.map_nil, hs, hx, hr]
  exact hK v' W' h2
/-- a row that grows beside a literal of one text. -/
def AP (w : World) (x : St.Bs) (g : Nat) (v : Value) (fs : List St.Bs) (W : World) : Prop := RowW w v fs W ∧ g < W.heap.size ∧ Wds W (some ⟨g, 0, none⟩) 1 [x] ∧ v.ownBlock ≠ some g
theorem ap_append {w W : World} {x : St.Bs} {g : Nat} {fs xs : List St.Bs} {v : Value} {ax : Addr} {c : Nat} (h : AP w x g v fs W) (hb : Wds W (some ax) c xs) (hl : fs.length ≤ 2000000) (hx : xs.length ≤ 2000000) (ty : TypeId) :
    ∃ v' W', (Builtin.append_ #[25, 25] ty #[v, .slice (some ax) xs.length c]).run Try.prog W = .ok v' W' ∧ AP w x g v' (fs ++ xs) W' := by
  obtain ⟨iF, hiF, hiF0, hiF1, hiF2⟩ := info_parts info9
  obtain ⟨h, hg, hwd, hno⟩ := h
  have hnews : ∀ (j : Nat) (u : Value), (wcells xs)[j]? = some u → W.cell? (ax.add j) = some u := by
    intro j u hj
    have hjl : j < xs.length := by
      have := (List.getElem?_eq_some_iff.1 hj).1
      rwa [wcells_len] at this
    obtain ⟨b, off, ha, -, -⟩ := hb.get (by omega)
    obtain rfl := Option.some.inj ha
    exact news_of hb j u hj
  obtain ⟨v', W', hr, ho, hgr, -, hat⟩ := run_append_own_at (P := Try.prog) W w.heap.size 25 ty 9 iF _ 1 16 Try.underlying25 hiF hiF0 hiF1 hiF2 rfl (by decide) v fs.length (wcells fs) h.1 ax xs.length c (wcells xs) (by rw [wcells_len, Nat.mul_one]) hnews news_one (by unfold maxLen; omega) (by omega) h.2.size
  have hk : Keeps (fun k => some k ≠ v.ownBlock) W W' := Keeps.of_grown hgr fun r e h => h e.symm
  refine ⟨v', W', hr, ⟨?_, h.2.trans (hk.below h.2.size fun k hk e => by have := (h.1.lt k e.symm).1; omega)⟩, Nat.lt_of_lt_of_le hg hk.size, hwd.keep hk.size (fun b off he hlt => by cases he; exact hk.block _ hg (fun e => hno e.symm)), ?_⟩
  · rw [List.length_append, show wcells (fs ++ xs) = wcells fs ++ wcells xs by simp [wcells]]
    exact ho
  · rcases hat with e | e
    · rw [e]; exact hno
    · rw [e]
      intro e'
      injection e' with e'
      omega
theorem wp_append_ap {o : Oper} {a : Act} {Q : Exit → Act → World → Prop} {K : Act → World → Prop} (s x : Operand)
    (ho : o.op = .call { callee := .builtin .append, args := #[s, x], argTypes := #[25, 25] })
    {w W : World} {y : St.Bs} {g : Nat} {v : Value} {fs xs : List St.Bs} {ax : Addr} {c : Nat} (hs : a.eval s = v) (h : AP w y g v fs W) (hx : a.eval x = .slice (some ax) xs.length c) (hb : Wds W (some ax) c xs) (hl : fs.length ≤ 2000000) (hxl : xs.length ≤ 2000000)
    (hK : ∀ v' W', AP w y g v' (fs ++ xs) W' → K (a.put o.dst v') W') : Oper.wp Try.prog o a W K Q := by
  obtain ⟨v', W', hr, h2⟩ := ap_append h hb hl hxl o.type
  unfold Oper.wp execOp
  simp only [ho, resolve, invoke, builtin, Sem.run_bind, Sem.run_pure, Result.andThen_ok, List.map_toArray, List.map_cons, List.map_nil, hs, hx, hr]
  exact hK v' W' h2
theorem wds_one (W : World) (x : St.Bs) (hx : x.length ≤ 1000000) : Wds (W.alloc (.cells #[.string ⟨x.toArray⟩] 9)) (some ⟨W.heap.size, 0, none⟩) 1 [x] :=
  wds_new W [x] (by simp) (by simp; omega)

theorem ap_lit {w W : World} {x : St.Bs} {v : Value} {fs : List St.Bs} (h : RowW w v fs W) (hx : x.length ≤ 1000000) : AP w x W.heap.size v fs (W.alloc (.cells #[.string ⟨x.toArray⟩] 9)) :=
  ⟨h.later ((Below.refl _ _).alloc (Nat.le_refl _) _), by simp, wds_one W x hx, fun e => by have := (h.1.lt _ e).2; omega⟩
theorem ap_empty {w W : World} {x : St.Bs} (hb : Below w.heap.size w W) (hx : x.length ≤ 1000000) :
    AP w x W.heap.size (.slice (some ⟨W.heap.size + 1, 0, none⟩) 0 0) [] ((W.alloc (.cells #[.string ⟨x.toArray⟩] 9)).alloc (.cells #[] 9)) := by
  have hB : Below w.heap.size w (W.alloc (.cells #[.string ⟨x.toArray⟩] 9)) := hb.alloc hb.size _
  have h1 := RowW.empty hB
  rw [World.size_alloc] at h1
  exact ⟨h1, by simp; omega, (wds_one W x hx).later ((Below.refl _ _).alloc (Nat.le_refl _) _), by simp [Value.ownBlock]⟩

/-- the texts turned, and one of them once more. -/
def turned (ws : List St.Bs) (k : Nat) : List St.Bs := ws.drop k ++ ws.take k ++ [ws.getD k []]
theorem turned_of {ws : List St.Bs} {k : Nat} (hk : k < ws.length) : St.ofS (turned ws k) = St.ofS ws := St.up_ext (St.of_up _) (St.of_up _) fun x => by
  rw [St.mem_of, St.mem_of]
  conv => rhs; rw [← List.take_append_drop k ws]
  unfold turned
  rw [getD_eq hk]
  simp only [List.mem_append, List.mem_singleton]
  constructor
  · rintro ((h | h) | h)
    · exact .inr h
    · exact .inl h
    · have hm : ws[k] ∈ ws.take k ++ ws.drop k := by rw [List.take_append_drop]; exact List.getElem_mem hk
      rw [h]
      exact List.mem_append.1 hm
  · rintro (h | h)
    · exact .inl (.inr h)
    · exact .inl (.inl h)
theorem turned_mem {ws : List St.Bs} {k : Nat} (hk : k < ws.length) {s : St.Bs} (h : s ∈ turned ws k) : s ∈ ws := by
  have := St.mem_of.2 h
  rw [turned_of hk] at this
  exact St.mem_of.1 this
theorem turned_len {ws : List St.Bs} {k : Nat} (hk : k < ws.length) : (turned ws k).length = ws.length + 1 := by
  simp [turned]
  omega
theorem has_take {ws : List St.Bs} {s : St.Bs} {k : Nat} (h : k < ws.length) : Mk.hasB (ws.take (k + 1)) s = (Mk.hasB (ws.take k) s || (ws.getD k [] == s)) := by
  rw [take_succ_getD (d := []) h]
  simp [Mk.hasB]
/-- the short ways of a set. -/
theorem setP_of (ws : List St.Bs) (h : ws.length ≤ 60) (hs : ∀ t ∈ ws, t.length ≤ 200) : SetP (St.ofS ws) ∧ (St.ofS ws).length ≤ 60 := by
  have h1 := St.of_len ws
  refine ⟨⟨St.of_up _, fun s hs' => ?_, by omega⟩, by omega⟩
  have := hs s (St.mem_of.1 hs')
  show s.length ≤ 1000000
  omega
theorem of_vs (W : World) (a : Option Addr) (c : Nat) (ws A : List St.Bs) (h : Wds W a c ws) (hl : ws.length ≤ 1000) (hs : ∀ s ∈ ws, OkW s) (hA : St.ofS ws = A) :
    Calls Try.prog 11 #[.slice a ws.length c] W (VOut W A) := by
  subst hA
  refine (callsIn_wide.1 (of_any a c ws W h (by omega) hs)).mono ?_
  rintro e W' ⟨u, rfl, hr⟩
  exact hr.vs fun s hs' => hs s (St.mem_of.1 hs')
theorem has_vs' (W : World) (a : Option Addr) (c : Nat) (A : List St.Bs) (s : St.Bs) (p : Bool) (h : VS W a c A) (hA : SetP A) (hp : Mk.hasB A s = p) :
    Calls Try.prog 12 #[.slice a A.length c, .string ⟨s.toArray⟩] W fun e w' => e = .returned (.bool p) ∧ W = w' := by
  subst hp
  exact has_any a c A s W h.1 (by have := hA.2.2; omega) hA.1

set_option maxRecDepth 100000 in
set_option maxHeartbeats 16000000 in
theorem setsOrder_walk (a0 : Option Addr) (cap0 : Nat) (ws : List St.Bs) (s : St.Bs) (y : Int) (w : World) (hW : Wds w a0 cap0 ws) (ls : s.length ≤ 9223372036854775807) (hy0 : 0 ≤ y) (hy1 : y ≤ 255) :
    Calls Try.prog 6 #[.slice a0 ws.length cap0, .string ⟨s.toArray⟩, .int .u8 y] w fun e w' => e = .returned (.bool true) ∧ Below w.heap.size w w' := by
  have HAW := Lib.hid (fun W => awake_any W)
  have HGr := Lib.hid (great_any a0 cap0 ws w hW)
  rcases Nat.eq_zero_or_pos ws.length with h0 | h0
  · obtain rfl : ws = [] := List.eq_nil_of_length_eq_zero h0
    clear HGr hW h0
    simp only [List.length_nil]
    go_enter Try.func6, Try.ntmps6
    go_wp2_with fail
    refine (HAW.out _).mono ?_
    rintro e w1 ⟨rfl, hb⟩
    have HB := Lib.hid hb
    clear hb
    go_wp2
    go_ret
    exact ⟨rfl, HB.out⟩
  have hn0 : ¬ ws.length = 0 := by omega
  have hnB : decide (ws.length = 0) = false := by simpa using hn0
  have hnI : (ws.length : Int) ≤ 9223372036854775807 := by have := hW.1; have := hW.2.1; omega
  cases hg : St.greatB ws with
  | true =>
    rw [hg] at HGr
    clear hg hW
    go_enter Try.func6, Try.ntmps6
    go_wp2_with fail
    refine HGr.out.mono ?_
    rintro e w1 ⟨rfl, rfl⟩
    go_wp2_with fail
    refine (HAW.out _).mono ?_
    rintro e w1 ⟨rfl, hb⟩
    have HB := Lib.hid hb
    clear hb
    go_wp2
    go_ret
    exact ⟨rfl, HB.out⟩
  | false =>
  obtain ⟨hl, ht⟩ := St.great_no hg
  rw [hg] at HGr
  clear hg
  by_cases hls : s.length ≤ 200
  rotate_left
  · have d0 : (200 : Int) < (s.length : Int) := by omega
    have d1 : (s.length : Int) ≤ 9223372036854775807 := by omega
    clear hls hW ht
    go_enter Try.func6, Try.ntmps6
    go_wp2_with fail
    refine HGr.out.mono ?_
    rintro e w1 ⟨rfl, rfl⟩
    go_wp2_with fail
    refine (HAW.out _).mono ?_
    rintro e w1 ⟨rfl, hb⟩
    have HB := Lib.hid hb
    clear hb
    go_wp2
    go_ret
    exact ⟨rfl, HB.out⟩
  have d0 : ¬ (200 : Int) < (s.length : Int) := by omega
  have d1 : (s.length : Int) ≤ 200 := by omega
  obtain ⟨b, off, rfl, hb, hc⟩ := hW.get h0
  obtain ⟨n, hn⟩ : ∃ n, ws.length = n := ⟨_, rfl⟩
  obtain ⟨K, hK⟩ : ∃ K : Nat, y % (n : Int) = (K : Int) := ⟨(y % (n : Int)).toNat, by have := Int.emod_nonneg y (b := (n : Int)) (by omega); omega⟩
  have hKn : K < n := by have := Int.emod_lt_of_pos y (b := (n : Int)) (by omega); omega
  have hKt : Int.tmod y (n : Int) = (K : Int) := by rw [Int.tmod_eq_emod_of_nonneg hy0]; exact hK
  have hcn : n ≤ cap0 := by have := hW.1; omega
  have hok : ∀ t ∈ ws, OkW t := fun t h => by have := ht t h; show t.length ≤ 1000000; omega
  obtain ⟨m, hm⟩ : ∃ m, turned ws K = m := ⟨_, rfl⟩
  obtain ⟨A, hA⟩ : ∃ A, St.ofS ws = A := ⟨_, rfl⟩
  have hmA : St.ofS m = A := by rw [← hm, ← hA]; exact turned_of (by omega)
  obtain ⟨sA, nA⟩ := setP_of ws hl ht
  rw [hA] at sA nA
  have nAl : A.length ≤ ws.length := by rw [← hA]; exact St.of_len ws
  have hml : m.length ≤ 1000 := by rw [← hm, turned_len (by omega)]; omega
  have hmo : ∀ t ∈ m, OkW t := fun t h => hok t (turned_mem (k := K) (by omega) (hm ▸ h))
  have HA1 := Lib.hid (fun W (hb : Below w.heap.size w W) => of_vs W _ cap0 ws A (hW.later hb) (by omega) hok hA)
  have HA2 := Lib.hid (fun W a c (h : Wds W a c m) => of_vs W a c m A h hml hmo hmA)
  have HTurn : Hid (turned ws K = m) := Lib.hid hm
  have HOkM := Lib.hid (show ∀ t ∈ m, t.length ≤ 9223372036854775807 from fun t h => by have : t.length ≤ 1000000 := hmo t h; omega)
  obtain ⟨x, hx⟩ : ∃ x, ws.getD K [] = x := ⟨_, rfl⟩
  have hxl : x.length ≤ 1000000 := by rw [← hx]; exact hok _ (by rw [getD_eq (by omega)]; exact List.getElem_mem (by omega))
  have c0 := hc K (by omega)
  rw [hx] at c0
  have HW := Lib.hid hW
  have HX := Lib.hid hx
  have HSA := Lib.hid sA
  have HHas := Lib.hid (show ∀ t, Mk.hasB A t = Mk.hasB ws t from fun t => St.has_congr (by rw [← hA]; exact St.mem_of))
  have HOk := Lib.hid hok
  have HC := Lib.hid hc
  rw [hn] at HA1 HGr h0 hn0 hnB hnI hl nAl HC ⊢
  have HN := Lib.hid hn
  have nI : (n : Int) ≤ 60 := by omega
  have kn1 : ¬ n < K := by omega
  have kn2 : ¬ cap0 < K := by omega
  have kn3 : K ≤ n := by omega
  have hnB2 : ((n : Int) == 0) = false := beq_eq_false_iff_ne.2 (by omega)
  have dB0 : decide ((200 : Int) < (s.length : Int)) = false := decide_eq_false d0
  have nI0 : (0 : Int) < (n : Int) := by omega
  have kI : (K : Int) < (n : Int) := by omega
  have kI0 : (0 : Int) ≤ (K : Int) := by omega
  have kc : (K : Int) ≤ (cap0 : Int) := by omega
  have kne : ¬ cap0 = K := by omega
  have kneB : decide (cap0 = K) = false := by simpa using kne
  have nA1 : (A.length : Int) ≤ 60 := by omega
  obtain ⟨l1, hl1⟩ : ∃ l1, ws.take K = l1 := ⟨_, rfl⟩
  obtain ⟨l3, hl3⟩ : ∃ l3, ws.drop K = l3 := ⟨_, rfl⟩
  have nl1 : l1.length = K := by rw [← hl1, List.length_take]; omega
  have nl3 : l3.length = n - K := by rw [← hl3, List.length_drop]; omega
  have HT1 := Lib.hid (fun W (hb : Below w.heap.size w W) => show Wds W (some ⟨b, off, none⟩) cap0 l1 by rw [← hl1]; exact (hW.take K).later hb)
  have HT3 := Lib.hid (fun W (hb : Below w.heap.size w W) => show Wds W (some ⟨b, off + K, none⟩) (cap0 - K) l3 by rw [← hl3]; exact (hW.drop K (by omega) (by omega)).later hb)
  have HMM : Hid ([] ++ l3 ++ l1 ++ [x] = m) := Lib.hid (by rw [← hm, ← hl1, ← hl3, ← hx]; simp [turned])
  have HE1 := Lib.hid nl1
  have HE3 := Lib.hid nl3
  have b1 : l1.length ≤ 60 := by omega
  have b3 : l3.length ≤ 60 := by omega
  clear hl1 hl3 nl1 nl3
  clear hW hm hA hmA sA hml hmo hx hc hok hn ht
  go_enter Try.func6, Try.ntmps6
  go_upto_region 4 with (go_at_call 8; refine HGr.out.mono ?_; rintro e w1 ⟨rfl, rfl⟩)
  go_cut [8] (fun v W1 => Hid (RowW w v m W1))
  case first =>
    have HS0 : w.drew.cell? ⟨b, off + K, none⟩ = some (.string ⟨x.toArray⟩) := (World.cell?_drew _ _).trans c0
    refine wp_region_L (S := fun W => W.cell? ⟨b, off + K, none⟩ = some (.string ⟨x.toArray⟩)) (f := 15) (by kernel_rfl) ?_
    refine wpAnyL_take (i := 1) (some 33) (v := .slice (some ⟨b, off, none⟩) n cap0) rfl rfl (by kernel_rfl) (by kernel_rfl) (by kernel_rfl) (by kernel_rfl) (fun _ _ _ h => h) (by rfl) (fun W hS => ?_) HS0 ?_
    · have m0 := hS
      go_simp
    try simp only [Act.put, List.setIfInBounds_toArray, List.set_cons_zero, List.set_cons_succ]
    refine wpAnyL_take (i := 2) (some 34) (v := .int .i64 (K : Int)) rfl rfl (by kernel_rfl) (by kernel_rfl) (by kernel_rfl) (by kernel_rfl) (fun _ _ _ h => h) (by rfl) (fun W hS => ?_) HS0 ?_
    · have m0 := hS
      go_simp
    try simp only [Act.put, List.setIfInBounds_toArray, List.set_cons_zero, List.set_cons_succ]
    refine wpAnyL_take (i := 3) (some 35) (v := .slice (some ⟨b, off + K, none⟩) (n - K) (cap0 - K)) rfl rfl (by kernel_rfl) (by kernel_rfl) (by kernel_rfl) (by kernel_rfl) (fun _ _ _ h => h) (by rfl) (fun W hS => ?_) HS0 ?_
    · have m0 := hS
      go_simp
    try simp only [Act.put, List.setIfInBounds_toArray, List.set_cons_zero, List.set_cons_succ]
    refine wpAnyL_take (i := 5) (some 37) (v := .slice (some ⟨b, off, none⟩) n cap0) rfl rfl (by kernel_rfl) (by kernel_rfl) (by kernel_rfl) (by kernel_rfl) (fun _ _ _ h => h) (by rfl) (fun W hS => ?_) HS0 ?_
    · have m0 := hS
      go_simp
    try simp only [Act.put, List.setIfInBounds_toArray, List.set_cons_zero, List.set_cons_succ]
    refine wpAnyL_take (i := 6) (some 38) (v := .int .i64 (K : Int)) rfl rfl (by kernel_rfl) (by kernel_rfl) (by kernel_rfl) (by kernel_rfl) (fun _ _ _ h => h) (by rfl) (fun W hS => ?_) HS0 ?_
    · have m0 := hS
      go_simp
    try simp only [Act.put, List.setIfInBounds_toArray, List.set_cons_zero, List.set_cons_succ]
    refine wpAnyL_take (i := 7) (some 39) (v := .slice (some ⟨b, off, none⟩) K cap0) rfl rfl (by kernel_rfl) (by kernel_rfl) (by kernel_rfl) (by kernel_rfl) (fun _ _ _ h => h) (by rfl) (fun W hS => ?_) HS0 ?_
    · have m0 := hS
      go_simp
    try simp only [Act.put, List.setIfInBounds_toArray, List.set_cons_zero, List.set_cons_succ]
    refine wpAnyL_take (i := 9) (some 41) (v := .slice (some ⟨b, off, none⟩) n cap0) rfl rfl (by kernel_rfl) (by kernel_rfl) (by kernel_rfl) (by kernel_rfl) (fun _ _ _ h => h) (by rfl) (fun W hS => ?_) HS0 ?_
    · have m0 := hS
      go_simp
    try simp only [Act.put, List.setIfInBounds_toArray, List.set_cons_zero, List.set_cons_succ]
    refine wpAnyL_take (i := 10) (some 42) (v := .int .i64 (K : Int)) rfl rfl (by kernel_rfl) (by kernel_rfl) (by kernel_rfl) (by kernel_rfl) (fun _ _ _ h => h) (by rfl) (fun W hS => ?_) HS0 ?_
    · have m0 := hS
      go_simp
    try simp only [Act.put, List.setIfInBounds_toArray, List.set_cons_zero, List.set_cons_succ]
    refine wpAnyL_take (i := 11) (some 43) (v := .pointer (some ⟨b, off + K, none⟩)) rfl rfl (by kernel_rfl) (by kernel_rfl) (by kernel_rfl) (by kernel_rfl) (fun _ _ _ h => h) (by rfl) (fun W hS => ?_) HS0 ?_
    · have m0 := hS
      go_simp
    try simp only [Act.put, List.setIfInBounds_toArray, List.set_cons_zero, List.set_cons_succ]
    refine wpAnyL_take (i := 12) (some 44) (v := .string ⟨x.toArray⟩) rfl rfl (by kernel_rfl) (by kernel_rfl) (by kernel_rfl) (by kernel_rfl) (fun _ _ _ h => h) (by rfl) (fun W hS => ?_) HS0 ?_
    · have m0 := hS
      go_simp
    try simp only [Act.put, List.setIfInBounds_toArray, List.set_cons_zero, List.set_cons_succ]
    have HBd := Lib.hid ((Below.refl w.heap.size w).drew)
    obtain ⟨x0, hx0⟩ : ∃ x0, w.drew = x0 := ⟨_, rfl⟩
    rw [hx0] at HS0 HBd ⊢
    clear hx0
    refine wpAnyL_two (i := 0) (j := 13) (by kernel_rfl) rfl rfl (by rfl) (by rfl) (fun KK hK => ?_) (fun KK hK => ?_)
    · refine oper_wp_val (v := .slice (some ⟨x0.heap.size, 0, none⟩) 0 0) (w' := x0.alloc (.cells #[] 9)) (by go_simp) ?_
      have hr := RowW.empty (HBd.out)
      generalize hgw : x0.alloc (.cells #[] 9) = x1 at *
      clear hgw
      have Hx1 := Lib.hid hr
      have hsx1 := (hr.2.cell (p := ⟨b, off + K, none⟩) hb).trans c0
      clear hr
      refine hK _ _ (fun _ => hsx1) ?_
      clear hK KK
      try simp only [Act.put, List.setIfInBounds_toArray, List.set_cons_zero, List.set_cons_succ]
      refine wpAnyL_two (i := 4) (j := 13) (by kernel_rfl) rfl rfl (by rfl) (by rfl) (fun KK hK => ?_) (fun KK hK => ?_)
      · refine wp_append_w (.tmp 32) (.tmp 35) rfl rfl Hx1.out (by rw [HE3.out]; rfl) (HT3.out _ (Hx1.out.2)) (by simp) (by simp <;> omega) (by omega) ?_
        intro vx2 x2 hr
        have Hx2 := Lib.hid hr
        have hsx2 := (hr.2.cell (p := ⟨b, off + K, none⟩) hb).trans c0
        clear hr
        refine hK _ _ (fun _ => hsx2) ?_
        clear hK KK
        try simp only [Act.put, List.setIfInBounds_toArray, List.set_cons_zero, List.set_cons_succ]
        refine wpAnyL_two (i := 8) (j := 13) (by kernel_rfl) rfl rfl (by rfl) (by rfl) (fun KK hK => ?_) (fun KK hK => ?_)
        · refine wp_append_w (.tmp 36) (.tmp 39) rfl rfl Hx2.out (by rw [HE1.out]; rfl) (HT1.out _ (Hx2.out.2)) (by simp) (by simp <;> omega) (by omega) ?_
          intro vx3 x3 hr
          have Hx3 := Lib.hid hr
          have hsx3 := (hr.2.cell (p := ⟨b, off + K, none⟩) hb).trans c0
          clear hr
          refine hK _ _ (fun _ => hsx3) ?_
          clear hK KK
          try simp only [Act.put, List.setIfInBounds_toArray, List.set_cons_zero, List.set_cons_succ]
          refine wpAnyL_one (j := 13) (by kernel_rfl) rfl (by rfl) (fun KK hK => ?_)
          refine oper_wp_val (v := .slice (some ⟨x3.heap.size, 0, none⟩) 1 1) (w' := x3.alloc (.cells #[.string ⟨x.toArray⟩] 9)) (by go_simp) ?_
          have hr := ap_lit (x := x) (Hx3.out) hxl
          generalize hgw : x3.alloc (.cells #[.string ⟨x.toArray⟩] 9) = x4 at *
          clear hgw
          have Hx4 := Lib.hid hr
          have hsx4 := (hr.1.2.cell (p := ⟨b, off + K, none⟩) hb).trans c0
          clear hr
          refine hK _ _ (fun _ => hsx4) ?_
          clear hK KK
          try simp only [Act.put, List.setIfInBounds_toArray, List.set_cons_zero, List.set_cons_succ]
          refine wpAnyL_one (j := 14) (by kernel_rfl) rfl (by rfl) (fun KK hK => ?_)
          refine wp_append_w (.tmp 40) (.tmp 45) rfl rfl Hx4.out.1 rfl Hx4.out.2.2.1 (by simp) (by simp <;> omega) (by simp) ?_
          intro vx5 x5 hr
          have Hx5 := Lib.hid hr
          have hsx5 := (hr.2.cell (p := ⟨b, off + K, none⟩) hb).trans c0
          clear hr
          refine hK _ _ (fun _ => hsx5) ?_
          clear hK KK
          try simp only [Act.put, List.setIfInBounds_toArray, List.set_cons_zero, List.set_cons_succ]
          refine wpAnyL_one (j := 15) (by kernel_rfl) rfl (by rfl) (fun KK hK => ?_)
          go_simp
          refine hK _ _ (fun h => (h rfl).elim) ?_
          clear hK KK
          try simp only [Act.put, List.setIfInBounds_toArray, List.set_cons_zero, List.set_cons_succ]
          refine wpAnyL_done (by kernel_rfl) ?_ _
          go_wp2_with fail
          go_meet
          case rel => exact Lib.hid (HMM.out ▸ Hx5.out)
        · refine oper_wp_val (v := .slice (some ⟨x2.heap.size, 0, none⟩) 1 1) (w' := x2.alloc (.cells #[.string ⟨x.toArray⟩] 9)) (by go_simp) ?_
          have hr := ap_lit (x := x) (Hx2.out) hxl
          generalize hgw : x2.alloc (.cells #[.string ⟨x.toArray⟩] 9) = x3 at *
          clear hgw
          have Hx3 := Lib.hid hr
          have hsx3 := (hr.1.2.cell (p := ⟨b, off + K, none⟩) hb).trans c0
          clear hr
          refine hK _ _ (fun _ => hsx3) ?_
          clear hK KK
          try simp only [Act.put, List.setIfInBounds_toArray, List.set_cons_zero, List.set_cons_succ]
          refine wpAnyL_one (j := 8) (by kernel_rfl) rfl (by rfl) (fun KK hK => ?_)
          refine wp_append_ap (.tmp 36) (.tmp 39) rfl rfl Hx3.out (by rw [HE1.out]; rfl) (HT1.out _ (Hx3.out.1.2)) (by simp <;> omega) (by omega) ?_
          intro vx4 x4 hr
          have Hx4 := Lib.hid hr
          have hsx4 := (hr.1.2.cell (p := ⟨b, off + K, none⟩) hb).trans c0
          clear hr
          refine hK _ _ (fun _ => hsx4) ?_
          clear hK KK
          try simp only [Act.put, List.setIfInBounds_toArray, List.set_cons_zero, List.set_cons_succ]
          refine wpAnyL_one (j := 14) (by kernel_rfl) rfl (by rfl) (fun KK hK => ?_)
          refine wp_append_w (.tmp 40) (.tmp 45) rfl rfl Hx4.out.1 rfl Hx4.out.2.2.1 (by simp) (by simp <;> omega) (by simp) ?_
          intro vx5 x5 hr
          have Hx5 := Lib.hid hr
          have hsx5 := (hr.2.cell (p := ⟨b, off + K, none⟩) hb).trans c0
          clear hr
          refine hK _ _ (fun _ => hsx5) ?_
          clear hK KK
          try simp only [Act.put, List.setIfInBounds_toArray, List.set_cons_zero, List.set_cons_succ]
          refine wpAnyL_one (j := 15) (by kernel_rfl) rfl (by rfl) (fun KK hK => ?_)
          go_simp
          refine hK _ _ (fun h => (h rfl).elim) ?_
          clear hK KK
          try simp only [Act.put, List.setIfInBounds_toArray, List.set_cons_zero, List.set_cons_succ]
          refine wpAnyL_done (by kernel_rfl) ?_ _
          go_wp2_with fail
          go_meet
          case rel => exact Lib.hid (HMM.out ▸ Hx5.out)
      · refine oper_wp_val (v := .slice (some ⟨x1.heap.size, 0, none⟩) 1 1) (w' := x1.alloc (.cells #[.string ⟨x.toArray⟩] 9)) (by go_simp) ?_
        have hr := ap_lit (x := x) (Hx1.out) hxl
        generalize hgw : x1.alloc (.cells #[.string ⟨x.toArray⟩] 9) = x2 at *
        clear hgw
        have Hx2 := Lib.hid hr
        have hsx2 := (hr.1.2.cell (p := ⟨b, off + K, none⟩) hb).trans c0
        clear hr
        refine hK _ _ (fun _ => hsx2) ?_
        clear hK KK
        try simp only [Act.put, List.setIfInBounds_toArray, List.set_cons_zero, List.set_cons_succ]
        refine wpAnyL_one (j := 4) (by kernel_rfl) rfl (by rfl) (fun KK hK => ?_)
        refine wp_append_ap (.tmp 32) (.tmp 35) rfl rfl Hx2.out (by rw [HE3.out]; rfl) (HT3.out _ (Hx2.out.1.2)) (by simp <;> omega) (by omega) ?_
        intro vx3 x3 hr
        have Hx3 := Lib.hid hr
        have hsx3 := (hr.1.2.cell (p := ⟨b, off + K, none⟩) hb).trans c0
        clear hr
        refine hK _ _ (fun _ => hsx3) ?_
        clear hK KK
        try simp only [Act.put, List.setIfInBounds_toArray, List.set_cons_zero, List.set_cons_succ]
        refine wpAnyL_one (j := 8) (by kernel_rfl) rfl (by rfl) (fun KK hK => ?_)
        refine wp_append_ap (.tmp 36) (.tmp 39) rfl rfl Hx3.out (by rw [HE1.out]; rfl) (HT1.out _ (Hx3.out.1.2)) (by simp <;> omega) (by omega) ?_
        intro vx4 x4 hr
        have Hx4 := Lib.hid hr
        have hsx4 := (hr.1.2.cell (p := ⟨b, off + K, none⟩) hb).trans c0
        clear hr
        refine hK _ _ (fun _ => hsx4) ?_
        clear hK KK
        try simp only [Act.put, List.setIfInBounds_toArray, List.set_cons_zero, List.set_cons_succ]
        refine wpAnyL_one (j := 14) (by kernel_rfl) rfl (by rfl) (fun KK hK => ?_)
        refine wp_append_w (.tmp 40) (.tmp 45) rfl rfl Hx4.out.1 rfl Hx4.out.2.2.1 (by simp) (by simp <;> omega) (by simp) ?_
        intro vx5 x5 hr
        have Hx5 := Lib.hid hr
        have hsx5 := (hr.2.cell (p := ⟨b, off + K, none⟩) hb).trans c0
        clear hr
        refine hK _ _ (fun _ => hsx5) ?_
        clear hK KK
        try simp only [Act.put, List.setIfInBounds_toArray, List.set_cons_zero, List.set_cons_succ]
        refine wpAnyL_one (j := 15) (by kernel_rfl) rfl (by rfl) (fun KK hK => ?_)
        go_simp
        refine hK _ _ (fun h => (h rfl).elim) ?_
        clear hK KK
        try simp only [Act.put, List.setIfInBounds_toArray, List.set_cons_zero, List.set_cons_succ]
        refine wpAnyL_done (by kernel_rfl) ?_ _
        go_wp2_with fail
        go_meet
        case rel => exact Lib.hid (HMM.out ▸ Hx5.out)
    · refine oper_wp_val (v := .slice (some ⟨x0.heap.size, 0, none⟩) 1 1) (w' := x0.alloc (.cells #[.string ⟨x.toArray⟩] 9)) (by go_simp) ?_
      have hsx1 := ((Below.refl x0.heap.size x0).alloc (Nat.le_refl _) (.cells #[.string ⟨x.toArray⟩] 9) |>.cell (p := ⟨b, off + K, none⟩) (Nat.lt_of_lt_of_le hb (HBd.out).size)).trans HS0
      refine hK _ _ (fun _ => hsx1) ?_
      clear hK KK
      try simp only [Act.put, List.setIfInBounds_toArray, List.set_cons_zero, List.set_cons_succ]
      refine wpAnyL_one (j := 0) (by kernel_rfl) rfl (by rfl) (fun KK hK => ?_)
      refine oper_wp_val (v := .slice (some ⟨x0.heap.size + 1, 0, none⟩) 0 0) (w' := (x0.alloc (.cells #[.string ⟨x.toArray⟩] 9)).alloc (.cells #[] 9)) (by go_simp) ?_
      have hr := ap_empty (x := x) (HBd.out) hxl
      generalize hgw : (x0.alloc (.cells #[.string ⟨x.toArray⟩] 9)).alloc (.cells #[] 9) = x2 at *
      clear hgw
      have Hx2 := Lib.hid hr
      have hsx2 := (hr.1.2.cell (p := ⟨b, off + K, none⟩) hb).trans c0
      clear hr
      refine hK _ _ (fun _ => hsx2) ?_
      clear hK KK
      try simp only [Act.put, List.setIfInBounds_toArray, List.set_cons_zero, List.set_cons_succ]
      refine wpAnyL_one (j := 4) (by kernel_rfl) rfl (by rfl) (fun KK hK => ?_)
      refine wp_append_ap (.tmp 32) (.tmp 35) rfl rfl Hx2.out (by rw [HE3.out]; rfl) (HT3.out _ (Hx2.out.1.2)) (by simp <;> omega) (by omega) ?_
      intro vx3 x3 hr
      have Hx3 := Lib.hid hr
      have hsx3 := (hr.1.2.cell (p := ⟨b, off + K, none⟩) hb).trans c0
      clear hr
      refine hK _ _ (fun _ => hsx3) ?_
      clear hK KK
      try simp only [Act.put, List.setIfInBounds_toArray, List.set_cons_zero, List.set_cons_succ]
      refine wpAnyL_one (j := 8) (by kernel_rfl) rfl (by rfl) (fun KK hK => ?_)
      refine wp_append_ap (.tmp 36) (.tmp 39) rfl rfl Hx3.out (by rw [HE1.out]; rfl) (HT1.out _ (Hx3.out.1.2)) (by simp <;> omega) (by omega) ?_
      intro vx4 x4 hr
      have Hx4 := Lib.hid hr
      have hsx4 := (hr.1.2.cell (p := ⟨b, off + K, none⟩) hb).trans c0
      clear hr
      refine hK _ _ (fun _ => hsx4) ?_
      clear hK KK
      try simp only [Act.put, List.setIfInBounds_toArray, List.set_cons_zero, List.set_cons_succ]
      refine wpAnyL_one (j := 14) (by kernel_rfl) rfl (by rfl) (fun KK hK => ?_)
      refine wp_append_w (.tmp 40) (.tmp 45) rfl rfl Hx4.out.1 rfl Hx4.out.2.2.1 (by simp) (by simp <;> omega) (by simp) ?_
      intro vx5 x5 hr
      have Hx5 := Lib.hid hr
      have hsx5 := (hr.2.cell (p := ⟨b, off + K, none⟩) hb).trans c0
      clear hr
      refine hK _ _ (fun _ => hsx5) ?_
      clear hK KK
      try simp only [Act.put, List.setIfInBounds_toArray, List.set_cons_zero, List.set_cons_succ]
      refine wpAnyL_one (j := 15) (by kernel_rfl) rfl (by rfl) (fun KK hK => ?_)
      go_simp
      refine hK _ _ (fun h => (h rfl).elim) ?_
      clear hK KK
      try simp only [Act.put, List.setIfInBounds_toArray, List.set_cons_zero, List.set_cons_succ]
      refine wpAnyL_done (by kernel_rfl) ?_ _
      go_wp2_with fail
      go_meet
      case rel => exact Lib.hid (HMM.out ▸ Hx5.out)
  case rest =>
    obtain ⟨wb, rfl⟩ : ∃ wb : World, wb = wc := ⟨_, rfl⟩
    have HBc := Lib.hid hcut.out.2
    obtain ⟨a8, c8, rfl, hw8⟩ := hcut.out.words HOkM.out
    have HW8 := Lib.hid hw8
    clear hcut hw8 HMM HTurn HX HT1 HT3 HE1 HE3 c0 HOkM hxl
    go_wp2_with fail
    refine (HA1.out wb HBc.out).mono ?_
    rintro e w2 ⟨bA, cA, rfl, hv, hb2⟩
    have HV9 := Lib.hid hv
    have HB2 := Lib.hid (HBc.out.trans (hb2.mono HBc.out.size))
    replace HW8 := Lib.hid (HW8.out.later hb2)
    clear hv hb2 HBc
    go_wp2_with fail
    refine (HA2.out w2 a8 c8 HW8.out).mono ?_
    rintro e w3 ⟨bB, cB, rfl, hv, hb3⟩
    replace HV9 := Lib.hid (HV9.out.later hb3)
    have HV10 := Lib.hid hv
    have HB3 := Lib.hid (HB2.out.trans (hb3.mono HB2.out.size))
    clear hv hb3 HB2 HW8 HA1 HA2
    have nAp : 0 < A.length := by
      have h1 : ws.getD 0 [] ∈ ws := by rw [getD_eq (by rw [HN.out]; omega)]; exact List.getElem_mem _
      have h2 : Mk.hasB A (ws.getD 0 []) = true := by rw [HHas.out]; exact St.has_iff.2 h1
      exact List.length_pos_of_mem (St.has_iff.1 h2)
    go_wp2
    go_loop [11, 12] (fun v i => ∃ (q : Nat) (bq : Bool), q ≤ n ∧ i = .int .i64 q ∧ v = .bool bq ∧ Hid (Mk.hasB (ws.take q) s = bq)) (fun _ i => n - (intOf i).toNat)
    case atStart => exact ⟨0, false, Nat.zero_le _, rfl, rfl, Lib.hid (by simp [Mk.hasB])⟩
    case round =>
      obtain ⟨q, bq, hq, rfl, rfl, HQ⟩ := hrel
      have q0 : (0 : Int) ≤ (q : Int) := by omega
      by_cases hlq : q < n
      · have y0 := (HB3.out.cell (p := ⟨b, off + q, none⟩) hb).trans (HC.out q hlq)
        have q1 : (q : Int) < (n : Int) := by omega
        have hqw : q < ws.length := by rw [HN.out]; exact hlq
        have HT := Lib.hid (has_take (s := s) hqw)
        have HM := Lib.hid (show Mk.hasB A (ws.getD q []) = true by rw [HHas.out]; exact St.has_iff.2 (by rw [getD_eq hqw]; exact List.getElem_mem hqw))
        have hol : (ws.getD q []).length ≤ 1000000 := HOk.out _ (by rw [getD_eq hqw]; exact List.getElem_mem hqw)
        obtain ⟨z, hz⟩ : ∃ z, ws.getD q [] = z := ⟨_, rfl⟩
        rw [hz] at y0 HT HM hol
        have HHz := Lib.hid (has_vs' w3 bA cA A z true HV9.out HSA.out HM.out)
        clear hz hqw HM
        cases bq with
        | true =>
          have HN2 : Hid (Mk.hasB (ws.take (q + 1)) s = true) := Lib.hid (by rw [HT.out, HQ.out]; rfl)
          go_wp2_with (go_at_call 12; refine HHz.out.mono ?_; rintro e w7 ⟨rfl, rfl⟩)
          go_round
          case rel => exact ⟨q + 1, true, by omega, by go_num, rfl, HN2⟩
          case measure => simp [intOf]; omega
        | false =>
          by_cases hzs : z = s
          · have HN2 : Hid (Mk.hasB (ws.take (q + 1)) s = true) := Lib.hid (by rw [HT.out, HQ.out, hzs]; simp)
            have e1 : (z == s) = true := by simp [hzs]
            clear hzs
            go_wp2_with (go_at_call 12; refine HHz.out.mono ?_; rintro e w7 ⟨rfl, rfl⟩)
            go_round
            case rel => exact ⟨q + 1, true, by omega, by go_num, rfl, HN2⟩
            case measure => simp [intOf]; omega
          · have e1 : (z == s) = false := by simp [hzs]
            have HN2 : Hid (Mk.hasB (ws.take (q + 1)) s = false) := Lib.hid (by rw [HT.out, HQ.out, e1]; rfl)
            clear hzs
            go_wp2_with (go_at_call 12; refine HHz.out.mono ?_; rintro e w7 ⟨rfl, rfl⟩)
            go_round
            case rel => exact ⟨q + 1, false, by omega, by go_num, rfl, HN2⟩
            case measure => simp [intOf]; omega
      · obtain rfl : q = n := by omega
        have HIn : Hid (Mk.hasB A s = bq) := Lib.hid (by rw [HHas.out, ← HQ.out, List.take_of_length_le (by rw [HN.out]; exact Nat.le_refl _)])
        clear HQ
        go_wp2
        go_loopw [13] (fun i wr => ∃ r : Nat, r + 1 ≤ A.length ∧ i = .int .i64 ((r : Int) + 1) ∧ Hid (Below w3.heap.size w3 wr)) (fun i _ => A.length + 1 - (intOf i).toNat)
        case atStart => exact ⟨0, by omega, rfl, Lib.hid (Below.refl _ _)⟩
        case round =>
          obtain ⟨r, hr, rfl, HB4⟩ := hrel
          have r0 : (0 : Int) ≤ (r : Int) := by omega
          have r9 : (r : Int) + 1 ≤ 60 := by omega
          by_cases hlr : r + 1 < A.length
          · obtain ⟨gb, go, rfl, hgb, hgc⟩ := HV9.out.1.get nAp
            have y0 := (HB4.out.cell (p := ⟨gb, go + r, none⟩) hgb).trans (hgc r (by omega))
            have y1 := (HB4.out.cell (p := ⟨gb, go + (r + 1), none⟩) hgb).trans (hgc (r + 1) hlr)
            have HUp := Lib.hid (show A.getD r [] < A.getD (r + 1) [] by
              rw [getD_eq (by omega), getD_eq hlr]
              exact List.pairwise_iff_getElem.1 HSA.out.1 r (r + 1) (by omega) hlr (by omega))
            have r1 : (r : Int) + 1 < (A.length : Int) := by omega
            have r2 : (r : Int) < (A.length : Int) := by omega
            have r3 : r < A.length := by omega
            have w1' : IntKind.i64.wrap (r : Int) = (r : Int) := IntWalk.i64_in _ (by omega)
            obtain ⟨z, hz⟩ : ∃ z, A.getD r [] = z := ⟨_, rfl⟩
            obtain ⟨z', hz'⟩ : ∃ z', A.getD (r + 1) [] = z' := ⟨_, rfl⟩
            rw [hz] at y0 HUp
            rw [hz'] at y1 HUp
            have e1 : Op.bytesLess z z' = true := by rw [bytesLess_eq, decide_eq_true HUp.out]
            have e2 : Op.bytesLess z' z = false := by rw [bytesLess_eq, decide_eq_false_iff_not]; exact List.lt_asymm HUp.out
            have e3 : (z == z') = false := beq_eq_false_iff_ne.2 (fun e => by have := HUp.out; rw [e] at this; exact List.lt_irrefl _ this)
            clear hz hz' hgc
            go_wp2
            go_quiet (fail)
            go_wp2
            go_roundw
            case rel => exact ⟨r + 1, by omega, by go_num, Lib.hid (below_drewN HB4.out _)⟩
            case measure => simp [intOf]; omega
          · obtain hre : A.length = r + 1 := by omega
            have HRe := Lib.hid hre
            have r1 : ¬ (r : Int) + 1 < (A.length : Int) := by omega
            have r2 : (A.length : Int) ≤ (q : Int) := by omega
            have HVa := Lib.hid (HV9.out.later HB4.out)
            have HVb := Lib.hid (HV10.out.later HB4.out)
            have HB5 := Lib.hid (HB3.out.trans (HB4.out.mono HB3.out.size))
            clear hre
            go_wp2_with fail
            refine (texts_any _ _ _ _ _ _ wr HVa.out.1 HVb.out.1).mono ?_
            rintro e w6 ⟨rfl, hb⟩
            replace HVa := Lib.hid (HVa.out.later hb)
            replace HB5 := Lib.hid (HB5.out.trans (hb.mono HB5.out.size))
            clear hb HVb
            simp only [decide_true]
            go_wp2_with fail
            refine (has_vs' w6 bA cA A s bq HVa.out HSA.out HIn.out).mono ?_
            rintro e w7 ⟨rfl, rfl⟩
            cases bq
            all_goals
              go_wp2_with fail
              refine (HAW.out _).mono ?_
              rintro e w8 ⟨rfl, hb⟩
              have HE := Lib.hid (HB5.out.trans (hb.mono HB5.out.size))
              clear hb
              go_wp2
              go_ret
              exact ⟨rfl, HE.out⟩
end Go.Proofs.Ytekdmnecjgpokaa
