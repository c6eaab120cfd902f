/- The contract of the reference's apply: one effect (11.1). The contract of the reference's Apply: many effects (11.1). -/
import Derived.Test.YtihleddhjmejoaaMD05
import Derived.Test.YtihleddhjmejoaaMD06
import Derived.Laws.AppendOwnNone
import Derived.Deep.Cut
import Derived.Deep.DeepCutAuto
namespace Go.Proofs.Ytihleddhjmejoaa
open Go.RowKit Go.Shelf
attribute [local go_sem] Oper.semAt_some
set_option linter.unusedVariables false
set_option linter.unusedSimpArgs false

/-- one effect: one round, at pairs with their places. -/
def stepL (e : Le) (st : List Lp × Bool) (p : Lp) : List Lp × Bool :=
  let st' := if !st.2 && !decide (p.key < e.key) then (st.1 ++ [⟨e.key, e.it⟩], true) else st
  (if p.key = e.key then st'.1 else st'.1 ++ [p], st'.2)
def foldL (e : Le) (ps : List Lp) : List Lp × Bool := ps.foldl (stepL e) ([], e.gone)
def app1L (ps : List Lp) (e : Le) : List Lp := if (foldL e ps).2 then (foldL e ps).1 else (foldL e ps).1 ++ [⟨e.key, e.it⟩]
theorem foldL_snoc (e : Le) (l : List Lp) (x : Lp) : foldL e (l ++ [x]) = stepL e (foldL e l) x := by simp [foldL, List.foldl_append]
theorem foldL_zero (b : Bool) : 0 + (if b = true then 0 else 1) ≤ 0 + 1 := by cases b <;> simp
theorem foldL_len (e : Le) (l : List Lp) : (foldL e l).1.length + (if (foldL e l).2 = true then 0 else 1) ≤ l.length + 1 := by
  have h : ∀ n, ∀ l : List Lp, l.length = n → (foldL e l).1.length + (if (foldL e l).2 = true then 0 else 1) ≤ n + 1 := by
    intro n
    induction n with
    | zero =>
              intro l hl
              rw [List.length_eq_zero_iff.1 hl]
              exact foldL_zero e.gone
    | succ n ih =>
      intro l hl
      obtain ⟨l', x, rfl⟩ : ∃ l' x, l = l' ++ [x] := ⟨l.dropLast, l.getLast (by intro h; rw [h] at hl; simp at hl), (List.dropLast_concat_getLast _).symm⟩
      have hl' : l'.length = n := by simpa using hl
      have := ih l' hl'
      rw [foldL_snoc]
      generalize foldL e l' = st at *
      obtain ⟨o, b⟩ := st
      simp only [stepL]
      by_cases h1 : x.key < e.key <;> by_cases h2 : x.key = e.key <;> cases b <;> simp [h1, h2] at this ⊢ <;> omega
  exact h _ l rfl
theorem foldL_mem (e : Le) (l : List Lp) : ∀ p ∈ (foldL e l).1, p ∈ l ∨ p = ⟨e.key, e.it⟩ := by
  have h : ∀ n, ∀ l : List Lp, l.length = n → ∀ p ∈ (foldL e l).1, p ∈ l ∨ p = ⟨e.key, e.it⟩ := by
    intro n
    induction n with
    | zero => intro l hl; rw [List.length_eq_zero_iff.1 hl]; simp [foldL]
    | succ n ih =>
      intro l hl
      obtain ⟨l', x, rfl⟩ : ∃ l' x, l = l' ++ [x] := ⟨l.dropLast, l.getLast (by intro h; rw [h] at hl; simp at hl), (List.dropLast_concat_getLast _).symm⟩
      have hl' : l'.length = n := by simpa using hl
      have hi := ih l' hl'
      rw [foldL_snoc]
      unfold stepL
      dsimp only
      intro p hp
      have : p ∈ (foldL e l').1 ∨ p = ⟨e.key, e.it⟩ ∨ p = x := by
        split at hp <;> split at hp <;> (try simp only [List.mem_append, List.mem_singleton] at hp) <;> first | (rcases hp with (hp | hp) | hp) | (rcases hp with hp | hp) | skip
        all_goals first | exact .inl hp | exact .inr (.inl hp) | exact .inr (.inr hp)
      rcases this with h | h | h
      · rcases hi p h with h | h
        · exact .inl (List.mem_append_left _ h)
        · exact .inr h
      · exact .inr h
      · exact .inl (by rw [h]; simp)
  exact h _ l rfl
theorem app1L_mem (ps : List Lp) (e : Le) : ∀ p ∈ app1L ps e, p ∈ ps ∨ p = ⟨e.key, e.it⟩ := by
  intro p hp
  unfold app1L at hp
  split at hp
  · exact foldL_mem e ps p hp
  · rcases List.mem_append.1 hp with hp | hp
    · exact foldL_mem e ps p hp
    · exact .inr (List.mem_singleton.1 hp)
theorem app1L_len (ps : List Lp) (e : Le) : (app1L ps e).length ≤ ps.length + 1 := by
  have := foldL_len e ps
  unfold app1L
  split
  · omega
  · rename_i h
    rw [if_neg h] at this
    rw [List.length_append]
    simp only [List.length_cons, List.length_nil]
    omega
theorem lt_neL {a b : List UInt8} (h : a < b) : ¬ a = b := fun e => List.lt_irrefl b (e ▸ h)

/-- the effect in a box. -/
def effW (w : World) (e : Le) : World := w.alloc (.cells #[.string ⟨e.key.toArray⟩, .bool e.gone, .int .i64 e.it.k, .string ⟨e.it.s.toArray⟩, .slice e.it.aF e.it.fs.length e.it.cF, .slice e.it.aL e.it.ws.length e.it.cL, .int .i64 e.it.x] 61)
theorem effW_at (w : World) (e : Le) : EAt (effW w e) w.heap.size 0 e := by
  have h : (effW w e).heap[w.heap.size]? = some _ := World.alloc_heap_new w (.cells #[.string ⟨e.key.toArray⟩, .bool e.gone, .int .i64 e.it.k, .string ⟨e.it.s.toArray⟩, .slice e.it.aF e.it.fs.length e.it.cF, .slice e.it.aL e.it.ws.length e.it.cL, .int .i64 e.it.x] 61)
  have g := fun j => cell_of_row _ w.heap.size j _ 61 (0, 0) h
  exact ⟨(g 0).trans rfl, (g 1).trans rfl, (g 2).trans rfl, (g 3).trans rfl, (g 4).trans rfl, (g 5).trans rfl, (g 6).trans rfl⟩
theorem effW_below (w : World) (e : Le) : Below w.heap.size w (effW w e) := (Below.refl _ w).alloc (Nat.le_refl _) _
theorem effW_size (w : World) (e : Le) : w.heap.size < (effW w e).heap.size := by unfold effW; simp
theorem ownsRow_base {w : World} {base base' : Nat} {t : TypeId} {sz n : Nat} {v : Value} {xs : List Value} (h : w.ownsRow base t sz v n xs) (hb : base' ≤ base) : w.ownsRow base' t sz v n xs := by
  obtain ⟨h0, h1⟩ := h
  refine ⟨h0, ?_⟩
  rcases h1 with h1 | ⟨g, cap, cur, h1, hg, rest⟩
  · exact .inl h1
  · exact .inr ⟨g, cap, cur, h1, by omega, rest⟩
theorem RowP.base {w W0 W : World} {v : Value} {ps : List Lp} (h : RowP W0 v ps W) (hb : Below w.heap.size w W0) (hp : ∀ p ∈ ps, p.Ok w) : RowP w v ps W := ⟨ownsRow_base h.1 hb.size, hb.trans (h.2.1.mono hb.size), hp⟩
theorem PAt.cs {w : World} {b off : Nat} {p : Lp} (h : PAt w b off p) : True := trivial

/-- an effect as an argument. -/
def effV (e : Le) : Value := .agg #[.string ⟨e.key.toArray⟩, .bool e.gone, .int .i64 e.it.k, .string ⟨e.it.s.toArray⟩, .slice e.it.aF e.it.fs.length e.it.cF, .slice e.it.aL e.it.ws.length e.it.cL, .int .i64 e.it.x]

set_option maxRecDepth 100000 in
set_option maxHeartbeats 16000000 in
theorem apply_any (a : Option Addr) (cap : Nat) (ps : List Lp) (e : Le) (w : World) (hP : Prs w a cap ps) (hE : e.Ok w) (hn : ps.length ≤ 1000000) :
    Calls Try.prog 52 #[.slice a ps.length cap, effV e] w fun r W => ∃ u, r = .returned u ∧ RowP w u (app1L ps e) W := by
  obtain ⟨iP, hiP, hiP0, hiP1, hiP2⟩ := info_parts infoP
  have HP := Lib.hid hP
  have hnI : (ps.length : Int) ≤ 1000000 := by omega
  have HBX := Lib.hid (effW_at w e)
  have HBW := Lib.hid (effW_below w e)
  have hB := effW_size w e
  have HFIN := Lib.hid (fun v W (h : RowP (effW w e) v (app1L ps e) W) => h.base (effW_below w e) (fun p hp => by
    rcases app1L_mem ps e p hp with h | h
    · exact hP.2 p h
    · rw [h]; exact hE))
  have HEO : Hid (Lp.Ok (effW w e) ⟨e.key, e.it⟩) := Lib.hid ⟨hE.1, hE.2.later (effW_below w e)⟩
  have HF := Lib.hid (fun q (h : q < ps.length) => (show foldL e (ps.take (q + 1)) = stepL e (foldL e (ps.take q)) (ps.getD q Lp.zero) by rw [take_succ_getD (d := Lp.zero) h, foldL_snoc]))
  have HFL := Lib.hid (fun q => foldL_len e (ps.take q))
  have HS := Lib.hid (show app1L ps e = if (foldL e (ps.take ps.length)).2 then (foldL e (ps.take ps.length)).1 else (foldL e (ps.take ps.length)).1 ++ [⟨e.key, e.it⟩] by rw [List.take_length]; rfl)
  have HF0 : Hid ((foldL e (ps.take 0)) = ([], e.gone)) := Lib.hid rfl
  clear hP hE
  have hBW2 : effW w e = w.alloc (.cells #[.string ⟨e.key.toArray⟩, .bool e.gone, .int .i64 e.it.k, .string ⟨e.it.s.toArray⟩, .slice e.it.aF e.it.fs.length e.it.cF, .slice e.it.aL e.it.ws.length e.it.cL, .int .i64 e.it.x] 61) := rfl
  unfold effV
  have c1' := HBX.out.2.1
  simp only [Nat.zero_add] at c1'
  rw [hBW2] at c1'
  clear hBW2
  go_enter Try.func52, Try.ntmps52
  go_wp2
  clear c1'
  go_loopw [5, 6, 7] (fun u bb i wr => ∃ q : Nat, q ≤ ps.length ∧ i = .int .i64 q ∧ bb = .bool (foldL e (ps.take q)).2 ∧ Hid (RowP (effW w e) u (foldL e (ps.take q)).1 wr)) (fun _ _ i _ => ps.length - (intOf i).toNat)
  case atStart => exact ⟨0, Nat.zero_le _, rfl, rfl, Lib.hid (RowP.none (Below.refl _ _))⟩
  case round =>
    obtain ⟨q, hq, rfl, rfl, HQ⟩ := hrel
    have hfl2 := HFL.out q
    have hfl3 := List.length_take_le q ps
    have hzr := HQ.out.2.1.size
    have HBR := Lib.hid (HBX.out.later hB HQ.out.2.1)
    by_cases hlt : q < ps.length
    · obtain ⟨b, off, rfl, hb, hc⟩ := HP.out.get (by omega)
      have HPA := Lib.hid (((hc q hlt).later hb HBW.out).later (Nat.lt_of_lt_of_le hb HBW.out.size) HQ.out.2.1)
      have HPA2 := Lib.hid (fun W (h : Below (effW w e).heap.size (effW w e) W) => ((hc q hlt).later hb HBW.out).later (Nat.lt_of_lt_of_le hb HBW.out.size) h)
      have HBA2 := Lib.hid (fun W (h : Below (effW w e).heap.size (effW w e) W) => HBX.out.later hB h)
      have HOK := Lib.hid (show (ps.getD q Lp.zero).Ok (effW w e) from ⟨(HP.out.at hlt).1, (HP.out.at hlt).2.later HBW.out⟩)
      have HNX := Lib.hid (HF.out q hlt)
      replace hb : b < (effW w e).heap.size := Nat.lt_of_lt_of_le hb HBW.out.size
      clear hc
      obtain ⟨⟨key, k, s, aF, fs, cF, aL, ws, cL, x⟩, hqq⟩ : ∃ p, ps.getD q Lp.zero = p := ⟨_, rfl⟩
      rw [hqq] at HPA HPA2 HOK HNX
      clear hqq
      obtain ⟨st, hst⟩ : ∃ st, foldL e (ps.take q) = st := ⟨_, rfl⟩
      rw [hst] at HNX HQ hfl2 ⊢
      obtain ⟨out, bb⟩ := st
      clear hst
      have hlo : out.length ≤ 2000000 := by have : out.length + (if bb = true then 0 else 1) ≤ (ps.take q).length + 1 := hfl2; omega
      have HQ2 : Hid (RowP (effW w e) u5 out wr) := Lib.hid HQ.out
      clear HQ hfl2 hfl3
      have k0 : (0 : Int) ≤ (q : Int) := by omega
      have k1 : (q : Int) < (ps.length : Int) := by omega
      obtain ⟨q0, q1, q2, q3, q4, q5⟩ := HPA.out
      have hbx := HBR.out
      have HEO2 := HEO
      have HST := Lib.hid (fun b => show stepL e (out, b) ⟨key, k, s, aF, fs, cF, aL, ws, cL, x⟩ = (let st' := if !b && !decide (key < e.key) then (out ++ [⟨e.key, e.it⟩], true) else (out, b); (if key = e.key then st'.1 else st'.1 ++ [⟨key, k, s, aF, fs, cF, aL, ws, cL, x⟩], st'.2)) from rfl)
      obtain ⟨⟨ek, eg, eK, eS, eaF, efs, ecF, eaL, ews, ecL, eX⟩, he⟩ : ∃ e', e = e' := ⟨_, rfl⟩
      have HBA3 : Hid (∀ W, Below (effW w e).heap.size (effW w e) W → EAt W w.heap.size 0 ⟨ek, eg, eK, eS, eaF, efs, ecF, eaL, ews, ecL, eX⟩) := Lib.hid (fun W h => by rw [← he]; exact HBA2.out W h)
      have HEO3 : Hid (Lp.Ok (effW w e) ⟨ek, eK, eS, eaF, efs, ecF, eaL, ews, ecL, eX⟩) := Lib.hid (by have := HEO.out; rw [he] at this; rw [he]; exact this)
      replace hbx : EAt wr w.heap.size 0 ⟨ek, eg, eK, eS, eaF, efs, ecF, eaL, ews, ecL, eX⟩ := by rw [← he]; exact hbx
      replace HST : Hid (∀ b, stepL e (out, b) ⟨key, k, s, aF, fs, cF, aL, ws, cL, x⟩ = (let st' := if !b && !decide (key < ek) then (out ++ [⟨ek, eK, eS, eaF, efs, ecF, eaL, ews, ecL, eX⟩], true) else (out, b); (if key = ek then st'.1 else st'.1 ++ [⟨key, k, s, aF, fs, cF, aL, ws, cL, x⟩], st'.2))) := Lib.hid (fun b => by rw [HST.out b, he])
      clear he HBA2 HEO HEO2
      obtain ⟨c0, c1, c2, c3, c4, c5, c6⟩ := hbx
      simp only [Nat.zero_add] at c0 c1 c2 c3 c4 c5 c6
      show Code.wp _ _ _ _ _
      cases bb
      · skip
        by_cases hs : key < ek
        · have hbl : Op.bytesLess key ek = true := by rw [bytesLess_eq, decide_eq_true hs]
          have HKE := Lib.hid (lt_neL hs)
          have HT := Lib.hid (show stepL e (out, false) ⟨key, k, s, aF, fs, cF, aL, ws, cL, x⟩ = (out ++ [⟨key, k, s, aF, fs, cF, aL, ws, cL, x⟩], false) by rw [HST.out, decide_eq_true hs]; simp [lt_neL hs])
          clear hs HST
          go_wp2
          have HS0 : Below (effW w e).heap.size wr wr.drew := (Below.refl (effW w e).heap.size wr).drew
          refine wp_region_L (S := fun W => Below (effW w e).heap.size wr W) (f := 12) (by kernel_rfl) ?_
          refine wpAnyL_take (i := 0) (some 16) (v := .bool false) rfl rfl (by kernel_rfl) (by kernel_rfl) (by kernel_rfl) (by kernel_rfl) (fun _ _ _ h => h) (by rfl) (fun W hS => ?_) HS0 ?_
          · go_simp
          try simp only [Act.put, List.setIfInBounds_toArray, List.set_cons_zero, List.set_cons_succ]
          refine wpAnyL_take (i := 1) (some 17) (v := .bool true) rfl rfl (by kernel_rfl) (by kernel_rfl) (by kernel_rfl) (by kernel_rfl) (fun _ _ _ h => h) (by rfl) (fun W hS => ?_) HS0 ?_
          · go_simp
          try simp only [Act.put, List.setIfInBounds_toArray, List.set_cons_zero, List.set_cons_succ]
          refine wpAnyL_take (i := 2) (some 18) (v := .bool true) rfl rfl (by kernel_rfl) (by kernel_rfl) (by kernel_rfl) (by kernel_rfl) (fun _ _ _ h => h) (by rfl) (fun W hS => ?_) HS0 ?_
          · go_simp
          try simp only [Act.put, List.setIfInBounds_toArray, List.set_cons_zero, List.set_cons_succ]
          refine wpAnyL_take (i := 3) (some 19) (v := .slice (some ⟨b, off, none⟩) ps.length cap) rfl rfl (by kernel_rfl) (by kernel_rfl) (by kernel_rfl) (by kernel_rfl) (fun _ _ _ h => h) (by rfl) (fun W hS => ?_) HS0 ?_
          · go_simp
          try simp only [Act.put, List.setIfInBounds_toArray, List.set_cons_zero, List.set_cons_succ]
          refine wpAnyL_take (i := 4) (some 20) (v := .int .i64 (q : Int)) rfl rfl (by kernel_rfl) (by kernel_rfl) (by kernel_rfl) (by kernel_rfl) (fun _ _ _ h => h) (by rfl) (fun W hS => ?_) HS0 ?_
          · go_simp
          try simp only [Act.put, List.setIfInBounds_toArray, List.set_cons_zero, List.set_cons_succ]
          refine wpAnyL_take (i := 5) (some 21) (v := .pointer (some ⟨b, off + q * 6, none⟩)) rfl rfl (by kernel_rfl) (by kernel_rfl) (by kernel_rfl) (by kernel_rfl) (fun _ _ _ h => h) (by rfl) (fun W hS => ?_) HS0 ?_
          · go_simp
          try simp only [Act.put, List.setIfInBounds_toArray, List.set_cons_zero, List.set_cons_succ]
          refine wpAnyL_take (i := 6) (some 22) (v := .pointer (some ⟨b, off + q * 6, none⟩)) rfl rfl (by kernel_rfl) (by kernel_rfl) (by kernel_rfl) (by kernel_rfl) (fun _ _ _ h => h) (by rfl) (fun W hS => ?_) HS0 ?_
          · go_simp
          try simp only [Act.put, List.setIfInBounds_toArray, List.set_cons_zero, List.set_cons_succ]
          refine wpAnyL_take (i := 7) (some 23) (v := .string ⟨key.toArray⟩) rfl rfl (by kernel_rfl) (by kernel_rfl) (by kernel_rfl) (by kernel_rfl) (fun _ _ _ h => h) (by rfl) (fun W hS => ?_) HS0 ?_
          · have m0 := (hS.cell (p := ⟨b, off + q * 6, none⟩) hb).trans q0
            go_simp
          try simp only [Act.put, List.setIfInBounds_toArray, List.set_cons_zero, List.set_cons_succ]
          refine wpAnyL_take (i := 8) (some 24) (v := .pointer (some ⟨w.heap.size, 0, none⟩)) rfl rfl (by kernel_rfl) (by kernel_rfl) (by kernel_rfl) (by kernel_rfl) (fun _ _ _ h => h) (by rfl) (fun W hS => ?_) HS0 ?_
          · go_simp
          try simp only [Act.put, List.setIfInBounds_toArray, List.set_cons_zero, List.set_cons_succ]
          refine wpAnyL_take (i := 9) (some 25) (v := .string ⟨ek.toArray⟩) rfl rfl (by kernel_rfl) (by kernel_rfl) (by kernel_rfl) (by kernel_rfl) (fun _ _ _ h => h) (by rfl) (fun W hS => ?_) HS0 ?_
          · have m0 := (hS.cell (p := ⟨w.heap.size, 0, none⟩) hB).trans c0
            go_simp
          try simp only [Act.put, List.setIfInBounds_toArray, List.set_cons_zero, List.set_cons_succ]
          refine wpAnyL_take (i := 10) (some 26) (v := .bool false) rfl rfl (by kernel_rfl) (by kernel_rfl) (by kernel_rfl) (by kernel_rfl) (fun _ _ _ h => h) (by rfl) (fun W hS => ?_) HS0 ?_
          · go_simp
          try simp only [Act.put, List.setIfInBounds_toArray, List.set_cons_zero, List.set_cons_succ]
          refine wpAnyL_one (j := 11) (by kernel_rfl) rfl (by rfl) (fun K hK => ?_)
          go_simp
          refine hK _ _ (fun _ => HS0) ?_
          clear hK K
          try simp only [Act.put, List.setIfInBounds_toArray, List.set_cons_zero, List.set_cons_succ]
          refine wpAnyL_done (by kernel_rfl) ?_ _
          go_wp2
          have HS0 : Below (effW w e).heap.size wr.drew wr.drew.drew := (Below.refl (effW w e).heap.size wr.drew).drew
          refine wp_region_L (S := fun W => Below (effW w e).heap.size wr.drew W) (f := 8) (by kernel_rfl) ?_
          refine wpAnyL_take (i := 0) (some 36) (v := .slice (some ⟨b, off, none⟩) ps.length cap) rfl rfl (by kernel_rfl) (by kernel_rfl) (by kernel_rfl) (by kernel_rfl) (fun _ _ _ h => h) (by rfl) (fun W hS => ?_) HS0 ?_
          · go_simp
          try simp only [Act.put, List.setIfInBounds_toArray, List.set_cons_zero, List.set_cons_succ]
          refine wpAnyL_take (i := 1) (some 37) (v := .int .i64 (q : Int)) rfl rfl (by kernel_rfl) (by kernel_rfl) (by kernel_rfl) (by kernel_rfl) (fun _ _ _ h => h) (by rfl) (fun W hS => ?_) HS0 ?_
          · go_simp
          try simp only [Act.put, List.setIfInBounds_toArray, List.set_cons_zero, List.set_cons_succ]
          refine wpAnyL_take (i := 2) (some 38) (v := .pointer (some ⟨b, off + q * 6, none⟩)) rfl rfl (by kernel_rfl) (by kernel_rfl) (by kernel_rfl) (by kernel_rfl) (fun _ _ _ h => h) (by rfl) (fun W hS => ?_) HS0 ?_
          · go_simp
          try simp only [Act.put, List.setIfInBounds_toArray, List.set_cons_zero, List.set_cons_succ]
          refine wpAnyL_take (i := 3) (some 39) (v := .pointer (some ⟨b, off + q * 6, none⟩)) rfl rfl (by kernel_rfl) (by kernel_rfl) (by kernel_rfl) (by kernel_rfl) (fun _ _ _ h => h) (by rfl) (fun W hS => ?_) HS0 ?_
          · go_simp
          try simp only [Act.put, List.setIfInBounds_toArray, List.set_cons_zero, List.set_cons_succ]
          refine wpAnyL_take (i := 4) (some 40) (v := .string ⟨key.toArray⟩) rfl rfl (by kernel_rfl) (by kernel_rfl) (by kernel_rfl) (by kernel_rfl) (fun _ _ _ h => h) (by rfl) (fun W hS => ?_) HS0 ?_
          · have m0 := (hS.cell (p := ⟨b, off + q * 6, none⟩) hb).trans q0
            go_simp
          try simp only [Act.put, List.setIfInBounds_toArray, List.set_cons_zero, List.set_cons_succ]
          refine wpAnyL_take (i := 5) (some 41) (v := .pointer (some ⟨w.heap.size, 0, none⟩)) rfl rfl (by kernel_rfl) (by kernel_rfl) (by kernel_rfl) (by kernel_rfl) (fun _ _ _ h => h) (by rfl) (fun W hS => ?_) HS0 ?_
          · go_simp
          try simp only [Act.put, List.setIfInBounds_toArray, List.set_cons_zero, List.set_cons_succ]
          refine wpAnyL_take (i := 6) (some 42) (v := .string ⟨ek.toArray⟩) rfl rfl (by kernel_rfl) (by kernel_rfl) (by kernel_rfl) (by kernel_rfl) (fun _ _ _ h => h) (by rfl) (fun W hS => ?_) HS0 ?_
          · have m0 := (hS.cell (p := ⟨w.heap.size, 0, none⟩) hB).trans c0
            go_simp
          try simp only [Act.put, List.setIfInBounds_toArray, List.set_cons_zero, List.set_cons_succ]
          refine wpAnyL_one (j := 7) (by kernel_rfl) rfl (by rfl) (fun K hK => ?_)
          refine oper_wp_valD (some 43) (v := .bool true) (w' := wr.drew.drew) rfl (by
            go_simp
            exact HKE.out) ?_
          refine hK _ _ (fun _ => HS0) ?_
          clear hK K
          try simp only [Act.put, List.setIfInBounds_toArray, List.set_cons_zero, List.set_cons_succ]
          refine wpAnyL_done (by kernel_rfl) ?_ _
          go_wp2_with (at_builtin; refine wpList_append_own _ rfl (.tmp 44) (.tmp 49) 27 rfl (effW w e).heap.size 65 iP _ 6 96 Try.underlying27 hiP hiP0 hiP1 hiP2 rfl (by decide) _ _ _ rfl (HQ2.out.drew.drew.1.alloc _) ⟨wr.heap.size, 0, none⟩ 1 1 [.string ⟨key.toArray⟩, .int .i64 k, .string ⟨s.toArray⟩, .slice aF fs.length cF, .slice aL ws.length cL, .int .i64 x] rfl rfl (row_news _ _ rfl _ _) (Lp.cs_one ⟨key, k, s, aF, fs, cF, aL, ws, cL, x⟩) (by unfold maxLen; omega) (by omega) (by simp; omega) ?_; intro v1 w1 hown hgrow _; have HR1 := Lib.hid (RowP.append (e := ⟨key, k, s, aF, fs, cF, aL, ws, cL, x⟩) HQ2.out.drew.drew hown hgrow HOK.out); have hzw1 := HR1.out.2.1.size; clear hown hgrow)
          go_roundw
          case rel => exact ⟨q + 1, by omega, by go_num, by rw [HNX.out, HT.out], Lib.hid (by rw [HNX.out, HT.out]; exact HR1.out)⟩
          case measure => simp [intOf]; omega
        · have hbl : Op.bytesLess key ek = false := by rw [bytesLess_eq, decide_eq_false hs]
          by_cases hke : key = ek
          · have HKE := Lib.hid hke
            have HT := Lib.hid (show stepL e (out, false) ⟨key, k, s, aF, fs, cF, aL, ws, cL, x⟩ = (out ++ [⟨ek, eK, eS, eaF, efs, ecF, eaL, ews, ecL, eX⟩], true) by rw [HST.out, decide_eq_false hs]; simp [hke])
            clear hs hke HST
            go_wp2
            have HS0 : Below (effW w e).heap.size wr wr.drew := (Below.refl (effW w e).heap.size wr).drew
            refine wp_region_L (S := fun W => Below (effW w e).heap.size wr W) (f := 12) (by kernel_rfl) ?_
            refine wpAnyL_take (i := 0) (some 16) (v := .bool false) rfl rfl (by kernel_rfl) (by kernel_rfl) (by kernel_rfl) (by kernel_rfl) (fun _ _ _ h => h) (by rfl) (fun W hS => ?_) HS0 ?_
            · go_simp
            try simp only [Act.put, List.setIfInBounds_toArray, List.set_cons_zero, List.set_cons_succ]
            refine wpAnyL_take (i := 1) (some 17) (v := .bool true) rfl rfl (by kernel_rfl) (by kernel_rfl) (by kernel_rfl) (by kernel_rfl) (fun _ _ _ h => h) (by rfl) (fun W hS => ?_) HS0 ?_
            · go_simp
            try simp only [Act.put, List.setIfInBounds_toArray, List.set_cons_zero, List.set_cons_succ]
            refine wpAnyL_take (i := 2) (some 18) (v := .bool true) rfl rfl (by kernel_rfl) (by kernel_rfl) (by kernel_rfl) (by kernel_rfl) (fun _ _ _ h => h) (by rfl) (fun W hS => ?_) HS0 ?_
            · go_simp
            try simp only [Act.put, List.setIfInBounds_toArray, List.set_cons_zero, List.set_cons_succ]
            refine wpAnyL_take (i := 3) (some 19) (v := .slice (some ⟨b, off, none⟩) ps.length cap) rfl rfl (by kernel_rfl) (by kernel_rfl) (by kernel_rfl) (by kernel_rfl) (fun _ _ _ h => h) (by rfl) (fun W hS => ?_) HS0 ?_
            · go_simp
            try simp only [Act.put, List.setIfInBounds_toArray, List.set_cons_zero, List.set_cons_succ]
            refine wpAnyL_take (i := 4) (some 20) (v := .int .i64 (q : Int)) rfl rfl (by kernel_rfl) (by kernel_rfl) (by kernel_rfl) (by kernel_rfl) (fun _ _ _ h => h) (by rfl) (fun W hS => ?_) HS0 ?_
            · go_simp
            try simp only [Act.put, List.setIfInBounds_toArray, List.set_cons_zero, List.set_cons_succ]
            refine wpAnyL_take (i := 5) (some 21) (v := .pointer (some ⟨b, off + q * 6, none⟩)) rfl rfl (by kernel_rfl) (by kernel_rfl) (by kernel_rfl) (by kernel_rfl) (fun _ _ _ h => h) (by rfl) (fun W hS => ?_) HS0 ?_
            · go_simp
            try simp only [Act.put, List.setIfInBounds_toArray, List.set_cons_zero, List.set_cons_succ]
            refine wpAnyL_take (i := 6) (some 22) (v := .pointer (some ⟨b, off + q * 6, none⟩)) rfl rfl (by kernel_rfl) (by kernel_rfl) (by kernel_rfl) (by kernel_rfl) (fun _ _ _ h => h) (by rfl) (fun W hS => ?_) HS0 ?_
            · go_simp
            try simp only [Act.put, List.setIfInBounds_toArray, List.set_cons_zero, List.set_cons_succ]
            refine wpAnyL_take (i := 7) (some 23) (v := .string ⟨key.toArray⟩) rfl rfl (by kernel_rfl) (by kernel_rfl) (by kernel_rfl) (by kernel_rfl) (fun _ _ _ h => h) (by rfl) (fun W hS => ?_) HS0 ?_
            · have m0 := (hS.cell (p := ⟨b, off + q * 6, none⟩) hb).trans q0
              go_simp
            try simp only [Act.put, List.setIfInBounds_toArray, List.set_cons_zero, List.set_cons_succ]
            refine wpAnyL_take (i := 8) (some 24) (v := .pointer (some ⟨w.heap.size, 0, none⟩)) rfl rfl (by kernel_rfl) (by kernel_rfl) (by kernel_rfl) (by kernel_rfl) (fun _ _ _ h => h) (by rfl) (fun W hS => ?_) HS0 ?_
            · go_simp
            try simp only [Act.put, List.setIfInBounds_toArray, List.set_cons_zero, List.set_cons_succ]
            refine wpAnyL_take (i := 9) (some 25) (v := .string ⟨ek.toArray⟩) rfl rfl (by kernel_rfl) (by kernel_rfl) (by kernel_rfl) (by kernel_rfl) (fun _ _ _ h => h) (by rfl) (fun W hS => ?_) HS0 ?_
            · have m0 := (hS.cell (p := ⟨w.heap.size, 0, none⟩) hB).trans c0
              go_simp
            try simp only [Act.put, List.setIfInBounds_toArray, List.set_cons_zero, List.set_cons_succ]
            refine wpAnyL_take (i := 10) (some 26) (v := .bool true) rfl rfl (by kernel_rfl) (by kernel_rfl) (by kernel_rfl) (by kernel_rfl) (fun _ _ _ h => h) (by rfl) (fun W hS => ?_) HS0 ?_
            · go_simp
            try simp only [Act.put, List.setIfInBounds_toArray, List.set_cons_zero, List.set_cons_succ]
            refine wpAnyL_one (j := 11) (by kernel_rfl) rfl (by rfl) (fun K hK => ?_)
            go_simp
            refine hK _ _ (fun _ => HS0) ?_
            clear hK K
            try simp only [Act.put, List.setIfInBounds_toArray, List.set_cons_zero, List.set_cons_succ]
            refine wpAnyL_done (by kernel_rfl) ?_ _
            go_wp2_with (at_builtin; refine wpList_append_own _ rfl (.tmp 28) (.tmp 34) 27 rfl (effW w e).heap.size 65 iP _ 6 96 Try.underlying27 hiP hiP0 hiP1 hiP2 rfl (by decide) _ _ _ rfl (HQ2.out.drew.1.alloc _) ⟨wr.heap.size, 0, none⟩ 1 1 [.string ⟨ek.toArray⟩, .int .i64 eK, .string ⟨eS.toArray⟩, .slice eaF efs.length ecF, .slice eaL ews.length ecL, .int .i64 eX] rfl rfl (row_news _ _ rfl _ _) (Lp.cs_one ⟨ek, eK, eS, eaF, efs, ecF, eaL, ews, ecL, eX⟩) (by unfold maxLen; omega) (by omega) (by simp; omega) ?_; intro v1 w1 hown hgrow _; have HR1 := Lib.hid (RowP.append (e := ⟨ek, eK, eS, eaF, efs, ecF, eaL, ews, ecL, eX⟩) HQ2.out.drew hown hgrow HEO3.out); have hzw1 := HR1.out.2.1.size; clear hown hgrow)
            obtain ⟨r0, r1, r2, r3, r4, r5⟩ := HPA2.out w1 HR1.out.2.1
            obtain ⟨d0, -⟩ := HBA3.out w1 HR1.out.2.1
            clear q0 q1 q2 q3 q4 q5 c0 c1 c2 c3 c4 c5 c6
            have HS0 : Below (effW w e).heap.size w1 w1.drew := (Below.refl (effW w e).heap.size w1).drew
            refine wp_region_L (S := fun W => Below (effW w e).heap.size w1 W) (f := 8) (by kernel_rfl) ?_
            refine wpAnyL_take (i := 0) (some 36) (v := .slice (some ⟨b, off, none⟩) ps.length cap) rfl rfl (by kernel_rfl) (by kernel_rfl) (by kernel_rfl) (by kernel_rfl) (fun _ _ _ h => h) (by rfl) (fun W hS => ?_) HS0 ?_
            · go_simp
            try simp only [Act.put, List.setIfInBounds_toArray, List.set_cons_zero, List.set_cons_succ]
            refine wpAnyL_take (i := 1) (some 37) (v := .int .i64 (q : Int)) rfl rfl (by kernel_rfl) (by kernel_rfl) (by kernel_rfl) (by kernel_rfl) (fun _ _ _ h => h) (by rfl) (fun W hS => ?_) HS0 ?_
            · go_simp
            try simp only [Act.put, List.setIfInBounds_toArray, List.set_cons_zero, List.set_cons_succ]
            refine wpAnyL_take (i := 2) (some 38) (v := .pointer (some ⟨b, off + q * 6, none⟩)) rfl rfl (by kernel_rfl) (by kernel_rfl) (by kernel_rfl) (by kernel_rfl) (fun _ _ _ h => h) (by rfl) (fun W hS => ?_) HS0 ?_
            · go_simp
            try simp only [Act.put, List.setIfInBounds_toArray, List.set_cons_zero, List.set_cons_succ]
            refine wpAnyL_take (i := 3) (some 39) (v := .pointer (some ⟨b, off + q * 6, none⟩)) rfl rfl (by kernel_rfl) (by kernel_rfl) (by kernel_rfl) (by kernel_rfl) (fun _ _ _ h => h) (by rfl) (fun W hS => ?_) HS0 ?_
            · go_simp
            try simp only [Act.put, List.setIfInBounds_toArray, List.set_cons_zero, List.set_cons_succ]
            refine wpAnyL_take (i := 4) (some 40) (v := .string ⟨key.toArray⟩) rfl rfl (by kernel_rfl) (by kernel_rfl) (by kernel_rfl) (by kernel_rfl) (fun _ _ _ h => h) (by rfl) (fun W hS => ?_) HS0 ?_
            · have m0 := (hS.cell (p := ⟨b, off + q * 6, none⟩) hb).trans r0
              go_simp
            try simp only [Act.put, List.setIfInBounds_toArray, List.set_cons_zero, List.set_cons_succ]
            refine wpAnyL_take (i := 5) (some 41) (v := .pointer (some ⟨w.heap.size, 0, none⟩)) rfl rfl (by kernel_rfl) (by kernel_rfl) (by kernel_rfl) (by kernel_rfl) (fun _ _ _ h => h) (by rfl) (fun W hS => ?_) HS0 ?_
            · go_simp
            try simp only [Act.put, List.setIfInBounds_toArray, List.set_cons_zero, List.set_cons_succ]
            refine wpAnyL_take (i := 6) (some 42) (v := .string ⟨ek.toArray⟩) rfl rfl (by kernel_rfl) (by kernel_rfl) (by kernel_rfl) (by kernel_rfl) (fun _ _ _ h => h) (by rfl) (fun W hS => ?_) HS0 ?_
            · have m0 := (hS.cell (p := ⟨w.heap.size, 0, none⟩) hB).trans d0
              go_simp
            try simp only [Act.put, List.setIfInBounds_toArray, List.set_cons_zero, List.set_cons_succ]
            refine wpAnyL_one (j := 7) (by kernel_rfl) rfl (by rfl) (fun K hK => ?_)
            refine oper_wp_valD (some 43) (v := .bool false) (w' := w1.drew) rfl (by
              go_simp
              exact HKE.out) ?_
            refine hK _ _ (fun _ => HS0) ?_
            clear hK K
            try simp only [Act.put, List.setIfInBounds_toArray, List.set_cons_zero, List.set_cons_succ]
            refine wpAnyL_done (by kernel_rfl) ?_ _
            go_wp2
            go_roundw
            case rel => exact ⟨q + 1, by omega, by go_num, by rw [HNX.out, HT.out], Lib.hid (by rw [HNX.out, HT.out]; exact HR1.out.drew)⟩
            case measure => simp [intOf]; omega
          · have HKE := Lib.hid hke
            have HT := Lib.hid (show stepL e (out, false) ⟨key, k, s, aF, fs, cF, aL, ws, cL, x⟩ = (out ++ [⟨ek, eK, eS, eaF, efs, ecF, eaL, ews, ecL, eX⟩] ++ [⟨key, k, s, aF, fs, cF, aL, ws, cL, x⟩], true) by rw [HST.out, decide_eq_false hs]; simp [hke])
            have hlo2 : (out ++ [(⟨ek, eK, eS, eaF, efs, ecF, eaL, ews, ecL, eX⟩ : Lp)]).length ≤ 2000001 := by rw [List.length_append]; simp; omega
            clear hs hke HST
            go_wp2
            have HS0 : Below (effW w e).heap.size wr wr.drew := (Below.refl (effW w e).heap.size wr).drew
            refine wp_region_L (S := fun W => Below (effW w e).heap.size wr W) (f := 12) (by kernel_rfl) ?_
            refine wpAnyL_take (i := 0) (some 16) (v := .bool false) rfl rfl (by kernel_rfl) (by kernel_rfl) (by kernel_rfl) (by kernel_rfl) (fun _ _ _ h => h) (by rfl) (fun W hS => ?_) HS0 ?_
            · go_simp
            try simp only [Act.put, List.setIfInBounds_toArray, List.set_cons_zero, List.set_cons_succ]
            refine wpAnyL_take (i := 1) (some 17) (v := .bool true) rfl rfl (by kernel_rfl) (by kernel_rfl) (by kernel_rfl) (by kernel_rfl) (fun _ _ _ h => h) (by rfl) (fun W hS => ?_) HS0 ?_
            · go_simp
            try simp only [Act.put, List.setIfInBounds_toArray, List.set_cons_zero, List.set_cons_succ]
            refine wpAnyL_take (i := 2) (some 18) (v := .bool true) rfl rfl (by kernel_rfl) (by kernel_rfl) (by kernel_rfl) (by kernel_rfl) (fun _ _ _ h => h) (by rfl) (fun W hS => ?_) HS0 ?_
            · go_simp
            try simp only [Act.put, List.setIfInBounds_toArray, List.set_cons_zero, List.set_cons_succ]
            refine wpAnyL_take (i := 3) (some 19) (v := .slice (some ⟨b, off, none⟩) ps.length cap) rfl rfl (by kernel_rfl) (by kernel_rfl) (by kernel_rfl) (by kernel_rfl) (fun _ _ _ h => h) (by rfl) (fun W hS => ?_) HS0 ?_
            · go_simp
            try simp only [Act.put, List.setIfInBounds_toArray, List.set_cons_zero, List.set_cons_succ]
            refine wpAnyL_take (i := 4) (some 20) (v := .int .i64 (q : Int)) rfl rfl (by kernel_rfl) (by kernel_rfl) (by kernel_rfl) (by kernel_rfl) (fun _ _ _ h => h) (by rfl) (fun W hS => ?_) HS0 ?_
            · go_simp
            try simp only [Act.put, List.setIfInBounds_toArray, List.set_cons_zero, List.set_cons_succ]
            refine wpAnyL_take (i := 5) (some 21) (v := .pointer (some ⟨b, off + q * 6, none⟩)) rfl rfl (by kernel_rfl) (by kernel_rfl) (by kernel_rfl) (by kernel_rfl) (fun _ _ _ h => h) (by rfl) (fun W hS => ?_) HS0 ?_
            · go_simp
            try simp only [Act.put, List.setIfInBounds_toArray, List.set_cons_zero, List.set_cons_succ]
            refine wpAnyL_take (i := 6) (some 22) (v := .pointer (some ⟨b, off + q * 6, none⟩)) rfl rfl (by kernel_rfl) (by kernel_rfl) (by kernel_rfl) (by kernel_rfl) (fun _ _ _ h => h) (by rfl) (fun W hS => ?_) HS0 ?_
            · go_simp
            try simp only [Act.put, List.setIfInBounds_toArray, List.set_cons_zero, List.set_cons_succ]
            refine wpAnyL_take (i := 7) (some 23) (v := .string ⟨key.toArray⟩) rfl rfl (by kernel_rfl) (by kernel_rfl) (by kernel_rfl) (by kernel_rfl) (fun _ _ _ h => h) (by rfl) (fun W hS => ?_) HS0 ?_
            · have m0 := (hS.cell (p := ⟨b, off + q * 6, none⟩) hb).trans q0
              go_simp
            try simp only [Act.put, List.setIfInBounds_toArray, List.set_cons_zero, List.set_cons_succ]
            refine wpAnyL_take (i := 8) (some 24) (v := .pointer (some ⟨w.heap.size, 0, none⟩)) rfl rfl (by kernel_rfl) (by kernel_rfl) (by kernel_rfl) (by kernel_rfl) (fun _ _ _ h => h) (by rfl) (fun W hS => ?_) HS0 ?_
            · go_simp
            try simp only [Act.put, List.setIfInBounds_toArray, List.set_cons_zero, List.set_cons_succ]
            refine wpAnyL_take (i := 9) (some 25) (v := .string ⟨ek.toArray⟩) rfl rfl (by kernel_rfl) (by kernel_rfl) (by kernel_rfl) (by kernel_rfl) (fun _ _ _ h => h) (by rfl) (fun W hS => ?_) HS0 ?_
            · have m0 := (hS.cell (p := ⟨w.heap.size, 0, none⟩) hB).trans c0
              go_simp
            try simp only [Act.put, List.setIfInBounds_toArray, List.set_cons_zero, List.set_cons_succ]
            refine wpAnyL_take (i := 10) (some 26) (v := .bool true) rfl rfl (by kernel_rfl) (by kernel_rfl) (by kernel_rfl) (by kernel_rfl) (fun _ _ _ h => h) (by rfl) (fun W hS => ?_) HS0 ?_
            · go_simp
            try simp only [Act.put, List.setIfInBounds_toArray, List.set_cons_zero, List.set_cons_succ]
            refine wpAnyL_one (j := 11) (by kernel_rfl) rfl (by rfl) (fun K hK => ?_)
            go_simp
            refine hK _ _ (fun _ => HS0) ?_
            clear hK K
            try simp only [Act.put, List.setIfInBounds_toArray, List.set_cons_zero, List.set_cons_succ]
            refine wpAnyL_done (by kernel_rfl) ?_ _
            go_wp2_with (at_builtin; refine wpList_append_own _ rfl (.tmp 28) (.tmp 34) 27 rfl (effW w e).heap.size 65 iP _ 6 96 Try.underlying27 hiP hiP0 hiP1 hiP2 rfl (by decide) _ _ _ rfl (HQ2.out.drew.1.alloc _) ⟨wr.heap.size, 0, none⟩ 1 1 [.string ⟨ek.toArray⟩, .int .i64 eK, .string ⟨eS.toArray⟩, .slice eaF efs.length ecF, .slice eaL ews.length ecL, .int .i64 eX] rfl rfl (row_news _ _ rfl _ _) (Lp.cs_one ⟨ek, eK, eS, eaF, efs, ecF, eaL, ews, ecL, eX⟩) (by unfold maxLen; omega) (by omega) (by simp; omega) ?_; intro v1 w1 hown hgrow _; have HR1 := Lib.hid (RowP.append (e := ⟨ek, eK, eS, eaF, efs, ecF, eaL, ews, ecL, eX⟩) HQ2.out.drew hown hgrow HEO3.out); have hzw1 := HR1.out.2.1.size; clear hown hgrow)
            obtain ⟨r0, r1, r2, r3, r4, r5⟩ := HPA2.out w1 HR1.out.2.1
            obtain ⟨d0, -⟩ := HBA3.out w1 HR1.out.2.1
            clear q0 q1 q2 q3 q4 q5 c0 c1 c2 c3 c4 c5 c6
            have HS0 : Below (effW w e).heap.size w1 w1.drew := (Below.refl (effW w e).heap.size w1).drew
            refine wp_region_L (S := fun W => Below (effW w e).heap.size w1 W) (f := 8) (by kernel_rfl) ?_
            refine wpAnyL_take (i := 0) (some 36) (v := .slice (some ⟨b, off, none⟩) ps.length cap) rfl rfl (by kernel_rfl) (by kernel_rfl) (by kernel_rfl) (by kernel_rfl) (fun _ _ _ h => h) (by rfl) (fun W hS => ?_) HS0 ?_
            · go_simp
            try simp only [Act.put, List.setIfInBounds_toArray, List.set_cons_zero, List.set_cons_succ]
            refine wpAnyL_take (i := 1) (some 37) (v := .int .i64 (q : Int)) rfl rfl (by kernel_rfl) (by kernel_rfl) (by kernel_rfl) (by kernel_rfl) (fun _ _ _ h => h) (by rfl) (fun W hS => ?_) HS0 ?_
            · go_simp
            try simp only [Act.put, List.setIfInBounds_toArray, List.set_cons_zero, List.set_cons_succ]
            refine wpAnyL_take (i := 2) (some 38) (v := .pointer (some ⟨b, off + q * 6, none⟩)) rfl rfl (by kernel_rfl) (by kernel_rfl) (by kernel_rfl) (by kernel_rfl) (fun _ _ _ h => h) (by rfl) (fun W hS => ?_) HS0 ?_
            · go_simp
            try simp only [Act.put, List.setIfInBounds_toArray, List.set_cons_zero, List.set_cons_succ]
            refine wpAnyL_take (i := 3) (some 39) (v := .pointer (some ⟨b, off + q * 6, none⟩)) rfl rfl (by kernel_rfl) (by kernel_rfl) (by kernel_rfl) (by kernel_rfl) (fun _ _ _ h => h) (by rfl) (fun W hS => ?_) HS0 ?_
            · go_simp
            try simp only [Act.put, List.setIfInBounds_toArray, List.set_cons_zero, List.set_cons_succ]
            refine wpAnyL_take (i := 4) (some 40) (v := .string ⟨key.toArray⟩) rfl rfl (by kernel_rfl) (by kernel_rfl) (by kernel_rfl) (by kernel_rfl) (fun _ _ _ h => h) (by rfl) (fun W hS => ?_) HS0 ?_
            · have m0 := (hS.cell (p := ⟨b, off + q * 6, none⟩) hb).trans r0
              go_simp
            try simp only [Act.put, List.setIfInBounds_toArray, List.set_cons_zero, List.set_cons_succ]
            refine wpAnyL_take (i := 5) (some 41) (v := .pointer (some ⟨w.heap.size, 0, none⟩)) rfl rfl (by kernel_rfl) (by kernel_rfl) (by kernel_rfl) (by kernel_rfl) (fun _ _ _ h => h) (by rfl) (fun W hS => ?_) HS0 ?_
            · go_simp
            try simp only [Act.put, List.setIfInBounds_toArray, List.set_cons_zero, List.set_cons_succ]
            refine wpAnyL_take (i := 6) (some 42) (v := .string ⟨ek.toArray⟩) rfl rfl (by kernel_rfl) (by kernel_rfl) (by kernel_rfl) (by kernel_rfl) (fun _ _ _ h => h) (by rfl) (fun W hS => ?_) HS0 ?_
            · have m0 := (hS.cell (p := ⟨w.heap.size, 0, none⟩) hB).trans d0
              go_simp
            try simp only [Act.put, List.setIfInBounds_toArray, List.set_cons_zero, List.set_cons_succ]
            refine wpAnyL_one (j := 7) (by kernel_rfl) rfl (by rfl) (fun K hK => ?_)
            refine oper_wp_valD (some 43) (v := .bool true) (w' := w1.drew) rfl (by
              go_simp
              exact HKE.out) ?_
            refine hK _ _ (fun _ => HS0) ?_
            clear hK K
            try simp only [Act.put, List.setIfInBounds_toArray, List.set_cons_zero, List.set_cons_succ]
            refine wpAnyL_done (by kernel_rfl) ?_ _
            go_wp2_with (at_builtin; refine wpList_append_own _ rfl (.tmp 44) (.tmp 49) 27 rfl (effW w e).heap.size 65 iP _ 6 96 Try.underlying27 hiP hiP0 hiP1 hiP2 rfl (by decide) _ _ _ rfl (HR1.out.drew.1.alloc _) ⟨w1.heap.size, 0, none⟩ 1 1 [.string ⟨key.toArray⟩, .int .i64 k, .string ⟨s.toArray⟩, .slice aF fs.length cF, .slice aL ws.length cL, .int .i64 x] rfl rfl (row_news _ _ rfl _ _) (Lp.cs_one ⟨key, k, s, aF, fs, cF, aL, ws, cL, x⟩) (by unfold maxLen; omega) (by omega) (by simp; omega) ?_; intro v2 w2 hown hgrow _; have HR2 := Lib.hid (RowP.append (e := ⟨key, k, s, aF, fs, cF, aL, ws, cL, x⟩) HR1.out.drew hown hgrow HOK.out); have hzw2 := HR2.out.2.1.size; clear hown hgrow)
            go_roundw
            case rel => exact ⟨q + 1, by omega, by go_num, by rw [HNX.out, HT.out], Lib.hid (by rw [HNX.out, HT.out]; exact HR2.out)⟩
            case measure => simp [intOf]; omega
      · skip
        by_cases hke : key = ek
        · have HKE := Lib.hid hke
          have HT := Lib.hid (show stepL e (out, true) ⟨key, k, s, aF, fs, cF, aL, ws, cL, x⟩ = (out, true) by rw [HST.out]; simp [hke])
          clear hke HST
          go_wp2
          have HS0 : Below (effW w e).heap.size wr wr.drew := (Below.refl (effW w e).heap.size wr).drew
          refine wp_region_L (S := fun W => Below (effW w e).heap.size wr W) (f := 12) (by kernel_rfl) ?_
          refine wpAnyL_take (i := 0) (some 16) (v := .bool true) rfl rfl (by kernel_rfl) (by kernel_rfl) (by kernel_rfl) (by kernel_rfl) (fun _ _ _ h => h) (by rfl) (fun W hS => ?_) HS0 ?_
          · go_simp
          try simp only [Act.put, List.setIfInBounds_toArray, List.set_cons_zero, List.set_cons_succ]
          refine wpAnyL_take (i := 1) (some 17) (v := .bool false) rfl rfl (by kernel_rfl) (by kernel_rfl) (by kernel_rfl) (by kernel_rfl) (fun _ _ _ h => h) (by rfl) (fun W hS => ?_) HS0 ?_
          · go_simp
          try simp only [Act.put, List.setIfInBounds_toArray, List.set_cons_zero, List.set_cons_succ]
          refine wpAnyL_take (i := 2) (some 18) (v := .bool false) rfl rfl (by kernel_rfl) (by kernel_rfl) (by kernel_rfl) (by kernel_rfl) (fun _ _ _ h => h) (by rfl) (fun W hS => ?_) HS0 ?_
          · go_simp
          try simp only [Act.put, List.setIfInBounds_toArray, List.set_cons_zero, List.set_cons_succ]
          refine wpAnyL_pass (i := 3) (some 19) rfl rfl (by kernel_rfl) (by kernel_rfl) (by kernel_rfl) (by kernel_rfl) (fun _ _ _ h => h) (by rfl) HS0 ?_
          try simp only [Act.put, List.setIfInBounds_toArray, List.set_cons_zero, List.set_cons_succ]
          refine wpAnyL_pass (i := 4) (some 20) rfl rfl (by kernel_rfl) (by kernel_rfl) (by kernel_rfl) (by kernel_rfl) (fun _ _ _ h => h) (by rfl) HS0 ?_
          try simp only [Act.put, List.setIfInBounds_toArray, List.set_cons_zero, List.set_cons_succ]
          refine wpAnyL_pass (i := 5) (some 21) rfl rfl (by kernel_rfl) (by kernel_rfl) (by kernel_rfl) (by kernel_rfl) (fun _ _ _ h => h) (by rfl) HS0 ?_
          try simp only [Act.put, List.setIfInBounds_toArray, List.set_cons_zero, List.set_cons_succ]
          refine wpAnyL_pass (i := 6) (some 22) rfl rfl (by kernel_rfl) (by kernel_rfl) (by kernel_rfl) (by kernel_rfl) (fun _ _ _ h => h) (by rfl) HS0 ?_
          try simp only [Act.put, List.setIfInBounds_toArray, List.set_cons_zero, List.set_cons_succ]
          refine wpAnyL_pass (i := 7) (some 23) rfl rfl (by kernel_rfl) (by kernel_rfl) (by kernel_rfl) (by kernel_rfl) (fun _ _ _ h => h) (by rfl) HS0 ?_
          try simp only [Act.put, List.setIfInBounds_toArray, List.set_cons_zero, List.set_cons_succ]
          refine wpAnyL_pass (i := 8) (some 24) rfl rfl (by kernel_rfl) (by kernel_rfl) (by kernel_rfl) (by kernel_rfl) (fun _ _ _ h => h) (by rfl) HS0 ?_
          try simp only [Act.put, List.setIfInBounds_toArray, List.set_cons_zero, List.set_cons_succ]
          refine wpAnyL_pass (i := 9) (some 25) rfl rfl (by kernel_rfl) (by kernel_rfl) (by kernel_rfl) (by kernel_rfl) (fun _ _ _ h => h) (by rfl) HS0 ?_
          try simp only [Act.put, List.setIfInBounds_toArray, List.set_cons_zero, List.set_cons_succ]
          refine wpAnyL_pass (i := 10) (some 26) rfl rfl (by kernel_rfl) (by kernel_rfl) (by kernel_rfl) (by kernel_rfl) (fun _ _ _ h => h) (by rfl) HS0 ?_
          try simp only [Act.put, List.setIfInBounds_toArray, List.set_cons_zero, List.set_cons_succ]
          refine wpAnyL_one (j := 11) (by kernel_rfl) rfl (by rfl) (fun K hK => ?_)
          go_simp
          refine hK _ _ (fun _ => HS0) ?_
          clear hK K
          try simp only [Act.put, List.setIfInBounds_toArray, List.set_cons_zero, List.set_cons_succ]
          refine wpAnyL_done (by kernel_rfl) ?_ _
          go_wp2
          have HS0 : Below (effW w e).heap.size wr.drew wr.drew.drew := (Below.refl (effW w e).heap.size wr.drew).drew
          refine wp_region_L (S := fun W => Below (effW w e).heap.size wr.drew W) (f := 8) (by kernel_rfl) ?_
          refine wpAnyL_take (i := 0) (some 36) (v := .slice (some ⟨b, off, none⟩) ps.length cap) rfl rfl (by kernel_rfl) (by kernel_rfl) (by kernel_rfl) (by kernel_rfl) (fun _ _ _ h => h) (by rfl) (fun W hS => ?_) HS0 ?_
          · go_simp
          try simp only [Act.put, List.setIfInBounds_toArray, List.set_cons_zero, List.set_cons_succ]
          refine wpAnyL_take (i := 1) (some 37) (v := .int .i64 (q : Int)) rfl rfl (by kernel_rfl) (by kernel_rfl) (by kernel_rfl) (by kernel_rfl) (fun _ _ _ h => h) (by rfl) (fun W hS => ?_) HS0 ?_
          · go_simp
          try simp only [Act.put, List.setIfInBounds_toArray, List.set_cons_zero, List.set_cons_succ]
          refine wpAnyL_take (i := 2) (some 38) (v := .pointer (some ⟨b, off + q * 6, none⟩)) rfl rfl (by kernel_rfl) (by kernel_rfl) (by kernel_rfl) (by kernel_rfl) (fun _ _ _ h => h) (by rfl) (fun W hS => ?_) HS0 ?_
          · go_simp
          try simp only [Act.put, List.setIfInBounds_toArray, List.set_cons_zero, List.set_cons_succ]
          refine wpAnyL_take (i := 3) (some 39) (v := .pointer (some ⟨b, off + q * 6, none⟩)) rfl rfl (by kernel_rfl) (by kernel_rfl) (by kernel_rfl) (by kernel_rfl) (fun _ _ _ h => h) (by rfl) (fun W hS => ?_) HS0 ?_
          · go_simp
          try simp only [Act.put, List.setIfInBounds_toArray, List.set_cons_zero, List.set_cons_succ]
          refine wpAnyL_take (i := 4) (some 40) (v := .string ⟨key.toArray⟩) rfl rfl (by kernel_rfl) (by kernel_rfl) (by kernel_rfl) (by kernel_rfl) (fun _ _ _ h => h) (by rfl) (fun W hS => ?_) HS0 ?_
          · have m0 := (hS.cell (p := ⟨b, off + q * 6, none⟩) hb).trans q0
            go_simp
          try simp only [Act.put, List.setIfInBounds_toArray, List.set_cons_zero, List.set_cons_succ]
          refine wpAnyL_take (i := 5) (some 41) (v := .pointer (some ⟨w.heap.size, 0, none⟩)) rfl rfl (by kernel_rfl) (by kernel_rfl) (by kernel_rfl) (by kernel_rfl) (fun _ _ _ h => h) (by rfl) (fun W hS => ?_) HS0 ?_
          · go_simp
          try simp only [Act.put, List.setIfInBounds_toArray, List.set_cons_zero, List.set_cons_succ]
          refine wpAnyL_take (i := 6) (some 42) (v := .string ⟨ek.toArray⟩) rfl rfl (by kernel_rfl) (by kernel_rfl) (by kernel_rfl) (by kernel_rfl) (fun _ _ _ h => h) (by rfl) (fun W hS => ?_) HS0 ?_
          · have m0 := (hS.cell (p := ⟨w.heap.size, 0, none⟩) hB).trans c0
            go_simp
          try simp only [Act.put, List.setIfInBounds_toArray, List.set_cons_zero, List.set_cons_succ]
          refine wpAnyL_one (j := 7) (by kernel_rfl) rfl (by rfl) (fun K hK => ?_)
          refine oper_wp_valD (some 43) (v := .bool false) (w' := wr.drew.drew) rfl (by
            go_simp
            exact HKE.out) ?_
          refine hK _ _ (fun _ => HS0) ?_
          clear hK K
          try simp only [Act.put, List.setIfInBounds_toArray, List.set_cons_zero, List.set_cons_succ]
          refine wpAnyL_done (by kernel_rfl) ?_ _
          go_wp2
          go_roundw
          case rel => exact ⟨q + 1, by omega, by go_num, by rw [HNX.out, HT.out], Lib.hid (by rw [HNX.out, HT.out]; exact HQ2.out.drew.drew)⟩
          case measure => simp [intOf]; omega
        · have HKE := Lib.hid hke
          have HT := Lib.hid (show stepL e (out, true) ⟨key, k, s, aF, fs, cF, aL, ws, cL, x⟩ = (out ++ [⟨key, k, s, aF, fs, cF, aL, ws, cL, x⟩], true) by rw [HST.out]; simp [hke])
          clear hke HST
          go_wp2
          have HS0 : Below (effW w e).heap.size wr wr.drew := (Below.refl (effW w e).heap.size wr).drew
          refine wp_region_L (S := fun W => Below (effW w e).heap.size wr W) (f := 12) (by kernel_rfl) ?_
          refine wpAnyL_take (i := 0) (some 16) (v := .bool true) rfl rfl (by kernel_rfl) (by kernel_rfl) (by kernel_rfl) (by kernel_rfl) (fun _ _ _ h => h) (by rfl) (fun W hS => ?_) HS0 ?_
          · go_simp
          try simp only [Act.put, List.setIfInBounds_toArray, List.set_cons_zero, List.set_cons_succ]
          refine wpAnyL_take (i := 1) (some 17) (v := .bool false) rfl rfl (by kernel_rfl) (by kernel_rfl) (by kernel_rfl) (by kernel_rfl) (fun _ _ _ h => h) (by rfl) (fun W hS => ?_) HS0 ?_
          · go_simp
          try simp only [Act.put, List.setIfInBounds_toArray, List.set_cons_zero, List.set_cons_succ]
          refine wpAnyL_take (i := 2) (some 18) (v := .bool false) rfl rfl (by kernel_rfl) (by kernel_rfl) (by kernel_rfl) (by kernel_rfl) (fun _ _ _ h => h) (by rfl) (fun W hS => ?_) HS0 ?_
          · go_simp
          try simp only [Act.put, List.setIfInBounds_toArray, List.set_cons_zero, List.set_cons_succ]
          refine wpAnyL_pass (i := 3) (some 19) rfl rfl (by kernel_rfl) (by kernel_rfl) (by kernel_rfl) (by kernel_rfl) (fun _ _ _ h => h) (by rfl) HS0 ?_
          try simp only [Act.put, List.setIfInBounds_toArray, List.set_cons_zero, List.set_cons_succ]
          refine wpAnyL_pass (i := 4) (some 20) rfl rfl (by kernel_rfl) (by kernel_rfl) (by kernel_rfl) (by kernel_rfl) (fun _ _ _ h => h) (by rfl) HS0 ?_
          try simp only [Act.put, List.setIfInBounds_toArray, List.set_cons_zero, List.set_cons_succ]
          refine wpAnyL_pass (i := 5) (some 21) rfl rfl (by kernel_rfl) (by kernel_rfl) (by kernel_rfl) (by kernel_rfl) (fun _ _ _ h => h) (by rfl) HS0 ?_
          try simp only [Act.put, List.setIfInBounds_toArray, List.set_cons_zero, List.set_cons_succ]
          refine wpAnyL_pass (i := 6) (some 22) rfl rfl (by kernel_rfl) (by kernel_rfl) (by kernel_rfl) (by kernel_rfl) (fun _ _ _ h => h) (by rfl) HS0 ?_
          try simp only [Act.put, List.setIfInBounds_toArray, List.set_cons_zero, List.set_cons_succ]
          refine wpAnyL_pass (i := 7) (some 23) rfl rfl (by kernel_rfl) (by kernel_rfl) (by kernel_rfl) (by kernel_rfl) (fun _ _ _ h => h) (by rfl) HS0 ?_
          try simp only [Act.put, List.setIfInBounds_toArray, List.set_cons_zero, List.set_cons_succ]
          refine wpAnyL_pass (i := 8) (some 24) rfl rfl (by kernel_rfl) (by kernel_rfl) (by kernel_rfl) (by kernel_rfl) (fun _ _ _ h => h) (by rfl) HS0 ?_
          try simp only [Act.put, List.setIfInBounds_toArray, List.set_cons_zero, List.set_cons_succ]
          refine wpAnyL_pass (i := 9) (some 25) rfl rfl (by kernel_rfl) (by kernel_rfl) (by kernel_rfl) (by kernel_rfl) (fun _ _ _ h => h) (by rfl) HS0 ?_
          try simp only [Act.put, List.setIfInBounds_toArray, List.set_cons_zero, List.set_cons_succ]
          refine wpAnyL_pass (i := 10) (some 26) rfl rfl (by kernel_rfl) (by kernel_rfl) (by kernel_rfl) (by kernel_rfl) (fun _ _ _ h => h) (by rfl) HS0 ?_
          try simp only [Act.put, List.setIfInBounds_toArray, List.set_cons_zero, List.set_cons_succ]
          refine wpAnyL_one (j := 11) (by kernel_rfl) rfl (by rfl) (fun K hK => ?_)
          go_simp
          refine hK _ _ (fun _ => HS0) ?_
          clear hK K
          try simp only [Act.put, List.setIfInBounds_toArray, List.set_cons_zero, List.set_cons_succ]
          refine wpAnyL_done (by kernel_rfl) ?_ _
          go_wp2
          have HS0 : Below (effW w e).heap.size wr.drew wr.drew.drew := (Below.refl (effW w e).heap.size wr.drew).drew
          refine wp_region_L (S := fun W => Below (effW w e).heap.size wr.drew W) (f := 8) (by kernel_rfl) ?_
          refine wpAnyL_take (i := 0) (some 36) (v := .slice (some ⟨b, off, none⟩) ps.length cap) rfl rfl (by kernel_rfl) (by kernel_rfl) (by kernel_rfl) (by kernel_rfl) (fun _ _ _ h => h) (by rfl) (fun W hS => ?_) HS0 ?_
          · go_simp
          try simp only [Act.put, List.setIfInBounds_toArray, List.set_cons_zero, List.set_cons_succ]
          refine wpAnyL_take (i := 1) (some 37) (v := .int .i64 (q : Int)) rfl rfl (by kernel_rfl) (by kernel_rfl) (by kernel_rfl) (by kernel_rfl) (fun _ _ _ h => h) (by rfl) (fun W hS => ?_) HS0 ?_
          · go_simp
          try simp only [Act.put, List.setIfInBounds_toArray, List.set_cons_zero, List.set_cons_succ]
          refine wpAnyL_take (i := 2) (some 38) (v := .pointer (some ⟨b, off + q * 6, none⟩)) rfl rfl (by kernel_rfl) (by kernel_rfl) (by kernel_rfl) (by kernel_rfl) (fun _ _ _ h => h) (by rfl) (fun W hS => ?_) HS0 ?_
          · go_simp
          try simp only [Act.put, List.setIfInBounds_toArray, List.set_cons_zero, List.set_cons_succ]
          refine wpAnyL_take (i := 3) (some 39) (v := .pointer (some ⟨b, off + q * 6, none⟩)) rfl rfl (by kernel_rfl) (by kernel_rfl) (by kernel_rfl) (by kernel_rfl) (fun _ _ _ h => h) (by rfl) (fun W hS => ?_) HS0 ?_
          · go_simp
          try simp only [Act.put, List.setIfInBounds_toArray, List.set_cons_zero, List.set_cons_succ]
          refine wpAnyL_take (i := 4) (some 40) (v := .string ⟨key.toArray⟩) rfl rfl (by kernel_rfl) (by kernel_rfl) (by kernel_rfl) (by kernel_rfl) (fun _ _ _ h => h) (by rfl) (fun W hS => ?_) HS0 ?_
          · have m0 := (hS.cell (p := ⟨b, off + q * 6, none⟩) hb).trans q0
            go_simp
          try simp only [Act.put, List.setIfInBounds_toArray, List.set_cons_zero, List.set_cons_succ]
          refine wpAnyL_take (i := 5) (some 41) (v := .pointer (some ⟨w.heap.size, 0, none⟩)) rfl rfl (by kernel_rfl) (by kernel_rfl) (by kernel_rfl) (by kernel_rfl) (fun _ _ _ h => h) (by rfl) (fun W hS => ?_) HS0 ?_
          · go_simp
          try simp only [Act.put, List.setIfInBounds_toArray, List.set_cons_zero, List.set_cons_succ]
          refine wpAnyL_take (i := 6) (some 42) (v := .string ⟨ek.toArray⟩) rfl rfl (by kernel_rfl) (by kernel_rfl) (by kernel_rfl) (by kernel_rfl) (fun _ _ _ h => h) (by rfl) (fun W hS => ?_) HS0 ?_
          · have m0 := (hS.cell (p := ⟨w.heap.size, 0, none⟩) hB).trans c0
            go_simp
          try simp only [Act.put, List.setIfInBounds_toArray, List.set_cons_zero, List.set_cons_succ]
          refine wpAnyL_one (j := 7) (by kernel_rfl) rfl (by rfl) (fun K hK => ?_)
          refine oper_wp_valD (some 43) (v := .bool true) (w' := wr.drew.drew) rfl (by
            go_simp
            exact HKE.out) ?_
          refine hK _ _ (fun _ => HS0) ?_
          clear hK K
          try simp only [Act.put, List.setIfInBounds_toArray, List.set_cons_zero, List.set_cons_succ]
          refine wpAnyL_done (by kernel_rfl) ?_ _
          go_wp2_with (at_builtin; refine wpList_append_own _ rfl (.tmp 44) (.tmp 49) 27 rfl (effW w e).heap.size 65 iP _ 6 96 Try.underlying27 hiP hiP0 hiP1 hiP2 rfl (by decide) _ _ _ rfl (HQ2.out.drew.drew.1.alloc _) ⟨wr.heap.size, 0, none⟩ 1 1 [.string ⟨key.toArray⟩, .int .i64 k, .string ⟨s.toArray⟩, .slice aF fs.length cF, .slice aL ws.length cL, .int .i64 x] rfl rfl (row_news _ _ rfl _ _) (Lp.cs_one ⟨key, k, s, aF, fs, cF, aL, ws, cL, x⟩) (by unfold maxLen; omega) (by omega) (by simp; omega) ?_; intro v1 w1 hown hgrow _; have HR1 := Lib.hid (RowP.append (e := ⟨key, k, s, aF, fs, cF, aL, ws, cL, x⟩) HQ2.out.drew.drew hown hgrow HOK.out); have hzw1 := HR1.out.2.1.size; clear hown hgrow)
          go_roundw
          case rel => exact ⟨q + 1, by omega, by go_num, by rw [HNX.out, HT.out], Lib.hid (by rw [HNX.out, HT.out]; exact HR1.out)⟩
          case measure => simp [intOf]; omega
    · obtain rfl : q = ps.length := by omega
      obtain ⟨st, hst⟩ : ∃ st, foldL e (ps.take ps.length) = st := ⟨_, rfl⟩
      rw [hst] at HS HQ hfl2 ⊢
      obtain ⟨out, bb⟩ := st
      clear hst
      have hlo : out.length ≤ 2000000 := by have : out.length + (if bb = true then 0 else 1) ≤ (ps.take ps.length).length + 1 := hfl2; omega
      have HQ2 : Hid (RowP (effW w e) u5 out wr) := Lib.hid HQ.out
      clear HQ hfl2 hfl3
      have k1 : ¬ (ps.length : Int) < (ps.length : Int) := by omega
      have hbx := HBR.out
      obtain ⟨ek, eg, eK, eS, eaF, efs, ecF, eaL, ews, ecL, eX⟩ := e
      obtain ⟨c0, c1, c2, c3, c4, c5, c6⟩ := hbx
      simp only [Nat.zero_add] at c0 c1 c2 c3 c4 c5 c6
      show Code.wp _ _ _ _ _
      cases bb
      · skip
        go_wp2_with (at_builtin; refine wpList_append_own _ rfl (.tmp 53) (.tmp 59) 27 rfl (effW w ⟨ek, eg, eK, eS, eaF, efs, ecF, eaL, ews, ecL, eX⟩).heap.size 65 iP _ 6 96 Try.underlying27 hiP hiP0 hiP1 hiP2 rfl (by decide) _ _ _ rfl (HQ2.out.1.alloc _) ⟨wr.heap.size, 0, none⟩ 1 1 [.string ⟨ek.toArray⟩, .int .i64 eK, .string ⟨eS.toArray⟩, .slice eaF efs.length ecF, .slice eaL ews.length ecL, .int .i64 eX] rfl rfl (row_news _ _ rfl _ _) (Lp.cs_one ⟨ek, eK, eS, eaF, efs, ecF, eaL, ews, ecL, eX⟩) (by unfold maxLen; omega) (by omega) (by simp; omega) ?_; intro v1 w1 hown hgrow _; have HR1 := Lib.hid (RowP.append (e := ⟨ek, eK, eS, eaF, efs, ecF, eaL, ews, ecL, eX⟩) HQ2.out hown hgrow HEO.out); have hzw1 := HR1.out.2.1.size; clear hown hgrow)
        go_ret
        exact ⟨_, rfl, HFIN.out _ _ (by rw [HS.out]; exact HR1.out)⟩
      · go_wp2
        go_ret
        exact ⟨_, rfl, HFIN.out _ _ (by rw [HS.out]; exact HQ2.out)⟩
end Go.Proofs.Ytihleddhjmejoaa
namespace Go.Proofs.Ytihleddhjmejoaa
open Go.RowKit Go.Shelf
attribute [local go_sem] Oper.semAt_some
set_option linter.unusedVariables false
set_option linter.unusedSimpArgs false

theorem lp_six (ps : List Lp) : ∀ c ∈ ps.map Lp.cs, c.length = 6 := fun c hc => by obtain ⟨p, -, rfl⟩ := List.mem_map.1 hc; rfl
theorem Addr.add_flat (b o j : Nat) : (Addr.add ⟨b, o, none⟩ j) = ⟨b, o + j, none⟩ := by
  unfold Addr.add
  split <;> first | omega | rfl | simp
theorem prs_news {w : World} {ad : Addr} {cap : Nat} {ps : List Lp} (h : Prs w (some ad) cap ps) : ∀ j u, ((ps.map Lp.cs).flatten)[j]? = some u → w.cell? (ad.add j) = some u := by
  intro j u hj
  by_cases h0 : ps.length = 0
  · rw [List.length_eq_zero_iff.1 h0] at hj; simp at hj
  · obtain ⟨b, off, he, hlt, hc⟩ := h.1.get (by simpa using Nat.pos_of_ne_zero h0)
    cases he
    have hlen := flat_len (lp_six ps)
    rw [List.length_map] at hlen
    have hj2 : j < ps.length * 6 := by
      have := (List.getElem?_eq_some_iff.1 hj).1
      omega
    have e : j / 6 * 6 + j % 6 = j := by omega
    have h1 := hc (j / 6) (by rw [List.length_map]; omega) (j % 6) (by omega)
    have h2 := flat_at (lp_six ps) (j / 6) (by rw [List.length_map]; omega) (j % 6) (by omega)
    rw [e] at h2
    rw [Addr.add_flat, ← hj, h2, ← h1, Nat.add_assoc, e]
theorem RowP.empty {w W : World} (hb : Below w.heap.size w W) : RowP w (.slice (some ⟨W.heap.size, 0, Option.none⟩) 0 0) [] (W.alloc (.cells #[] 65)) :=
  ⟨⟨rfl, .inr ⟨W.heap.size, 0, #[], rfl, hb.size, World.alloc_heap_new W _, Nat.le_refl _, by decide, rfl, rfl⟩⟩, hb.alloc hb.size _, by simp⟩
theorem RowP.many {w W w1 : World} {v' : Value} {ps : List Lp} {v : Value} {n : Nat} (h : RowP w v [] W) (h1 : w1.ownsRow w.heap.size 65 6 v' n ((([] : List Lp).map Lp.cs).flatten ++ (ps.map Lp.cs).flatten)) (hn : n = ps.length) (hg : W.grownBy w1 v.ownBlock) (hp : ∀ p ∈ ps, p.Ok w) : RowP w v' ps w1 := by
  subst hn
  exact ⟨by simpa using h1, h.2.1.trans ((Keeps.of_grown (S := fun k => some k ≠ v.ownBlock) hg fun r e h => h e.symm).below h.2.1.size fun k hk e => by have := (h.1.lt k e.symm).1; omega), hp⟩
theorem flat_one (ps : List Lp) : ∀ u ∈ (ps.map Lp.cs).flatten, u.oneCell' = true := fun u hu => by
  obtain ⟨c, hc, hu⟩ := List.mem_flatten.1 hu
  obtain ⟨p, -, rfl⟩ := List.mem_map.1 hc
  exact Lp.cs_one p u hu

/-- many effects. -/
def appL (ps : List Lp) (es : List Le) : List Lp := es.foldl app1L ps
theorem appL_snoc (ps : List Lp) (es : List Le) (e : Le) : appL ps (es ++ [e]) = app1L (appL ps es) e := by simp [appL, List.foldl_append]
theorem appL_len (ps : List Lp) : ∀ es : List Le, (appL ps es).length ≤ ps.length + es.length := by
  have h : ∀ n, ∀ es : List Le, es.length = n → (appL ps es).length ≤ ps.length + n := by
    intro n
    induction n with
    | zero => intro es he; rw [List.length_eq_zero_iff.1 he]; simp [appL]
    | succ n ih =>
      intro es he
      obtain ⟨l', x, rfl⟩ : ∃ l' x, es = l' ++ [x] := ⟨es.dropLast, es.getLast (by intro h; rw [h] at he; simp at he), (List.dropLast_concat_getLast _).symm⟩
      have := ih l' (by simpa using he)
      rw [appL_snoc]
      have := app1L_len (appL ps l') x
      omega
  exact fun es => h _ es rfl
theorem appL_ok {w : World} {ps : List Lp} (hp : ∀ p ∈ ps, p.Ok w) : ∀ es : List Le, (∀ e ∈ es, e.Ok w) → ∀ p ∈ appL ps es, p.Ok w := by
  have h : ∀ n, ∀ es : List Le, es.length = n → (∀ e ∈ es, e.Ok w) → ∀ p ∈ appL ps es, p.Ok w := by
    intro n
    induction n with
    | zero => intro es he; rw [List.length_eq_zero_iff.1 he]; intro _; exact hp
    | succ n ih =>
      intro es he
      obtain ⟨l', x, rfl⟩ : ∃ l' x, es = l' ++ [x] := ⟨es.dropLast, es.getLast (by intro h; rw [h] at he; simp at he), (List.dropLast_concat_getLast _).symm⟩
      intro hx p hpm
      rw [appL_snoc] at hpm
      rcases app1L_mem _ _ p hpm with h | h
      · exact ih l' (by simpa using he) (fun e he => hx e (List.mem_append_left _ he)) p h
      · rw [h]
        exact hx x (by simp)
  exact fun es => h _ es rfl

set_option maxRecDepth 100000 in
set_option maxHeartbeats 8000000 in
theorem applyAll_any (a : Option Addr) (cap : Nat) (ps : List Lp) (b : Option Addr) (cb : Nat) (es : List Le) (w : World) (hP : Prs w a cap ps) (hE : Efs w b cb es) (hn : ps.length ≤ 100000) (hm : es.length ≤ 100000) (ha : a = none → cap = 0) :
    Calls Try.prog 33 #[.slice a ps.length cap, .slice b es.length cb] w fun r W => ∃ u, r = .returned u ∧ RowP w u (appL ps es) W := by
  obtain ⟨iP, hiP, hiP0, hiP1, hiP2⟩ := info_parts infoP
  have HE := Lib.hid hE
  have HAL := Lib.hid (fun q => appL_len ps (es.take q))
  have HOK := Lib.hid (fun q => appL_ok hP.2 (es.take q) (fun e he => hE.2 e (List.mem_of_mem_take he)))
  have HAP := Lib.hid (fun (a : Option Addr) (cap : Nat) (qs : List Lp) (e : Le) (W : World) (h1 : Prs W a cap qs) (h2 : e.Ok W) (h3 : qs.length ≤ 1000000) => apply_any a cap qs e W h1 h2 h3)
  have HF := Lib.hid (fun q (h : q < es.length) => (show appL ps (es.take (q + 1)) = app1L (appL ps (es.take q)) (es.getD q Le.zero) by rw [take_succ_getD (d := Le.zero) h, appL_snoc]))
  have HR0 := Lib.hid (RowP.empty (Below.refl w.heap.size w))
  have hPl := hP.len
  have hpc : (ps.length : Int) ≤ (cap : Int) := by omega
  have hcI : (cap : Int) ≤ 9223372036854775807 := by omega
  have hnI : (es.length : Int) ≤ 100000 := by omega
  have hW1 : Below w.heap.size w (w.alloc (.cells #[] 65)) := (Below.refl _ w).alloc (Nat.le_refl _) _
  have HN := Lib.hid (fun ad (h : a = some ad) => prs_news (show Prs (w.alloc (.cells #[] 65)) (some ad) cap ps by rw [← h]; exact hP.later hW1))
  have HPO := Lib.hid hP.2
  clear hP hE hW1
  go_enter Try.func33, Try.ntmps33
  go_upto_region 1 with (fail)
  go_cut [5] (fun u W => Hid (RowP w u ps W))
  case first =>
    cases a with
    | none =>
      obtain rfl : cap = 0 := ha rfl
      obtain rfl : ps = [] := List.eq_nil_of_length_eq_zero (by omega)
      go_wp2_with (at_builtin; refine wpList_append_own_none rfl (.tmp 7) (.tmp 8) 27 rfl w.heap.size 65 iP 6 Try.underlying27 hiP _ _ _ rfl HR0.out.1 rfl ?_)
      go_meet
      case rel => exact HR0
    | some ad =>
      have HN2 := Lib.hid (HN.out ad rfl)
      go_wp2_with (at_builtin; refine wpList_append_own _ rfl (.tmp 7) (.tmp 8) 27 rfl w.heap.size 65 iP _ 6 96 Try.underlying27 hiP hiP0 hiP1 hiP2 rfl (by decide) _ _ _ rfl HR0.out.1 ad ps.length cap (ps.map Lp.cs).flatten rfl (by rw [flat_len (lp_six ps), List.length_map]) HN2.out (flat_one ps) (by unfold maxLen; simp; omega) (by simp; omega) (by simp) ?_)
      intro v1 w1 hown hgrow _
      have HR1 := Lib.hid (RowP.many HR0.out hown (by simp) hgrow HPO.out)
      clear hown hgrow
      go_wp2_with fail
      go_meet
      case rel => exact HR1
  case rest =>
    have HRc := hcut
    clear HN HR0 hcut
    go_wp2
    go_loopw [5, 6] (fun u i wr => ∃ q : Nat, q ≤ es.length ∧ i = .int .i64 q ∧ Hid (RowP w u (appL ps (es.take q)) wr)) (fun _ i _ => es.length - (intOf i).toNat)
    case atStart => exact ⟨0, Nat.zero_le _, rfl, HRc⟩
    case round =>
      obtain ⟨q, hq, rfl, HR⟩ := hrel
      have hol := HAL.out q
      have hql := List.length_take_le q es
      by_cases hlt : q < es.length
      · have hE1 := HE.out.later HR.out.2.1
        obtain ⟨b', off, rfl, hb, hc⟩ := hE1.get (by omega)
        obtain ⟨q0, q1, q2, q3, q4, q5, q6⟩ := hc q hlt
        obtain ⟨a', cap', rfl, hP', hn'⟩ := HR.out.prs
        have HC := Lib.hid (HAP.out a' cap' _ (es.getD q Le.zero) wr hP' (hE1.at hlt) (by omega))
        have HX := Lib.hid (fun u W (h : RowP wr u (app1L (appL ps (es.take q)) (es.getD q Le.zero)) W) => show RowP w u (appL ps (es.take (q + 1))) W by
          have h1 := HF.out q hlt
          rw [h1]
          exact h.base HR.out.2.1 (by rw [← h1]; exact HOK.out (q + 1)))
        clear hc hE1 hP'
        unfold effV at HC
        obtain ⟨⟨ek, eg, eK, eS, eaF, efs, ecF, eaL, ews, ecL, eX⟩, hqq⟩ : ∃ e', es.getD q Le.zero = e' := ⟨_, rfl⟩
        rw [hqq] at q0 q1 q2 q3 q4 q5 q6 HC HX
        clear hqq
        simp only [] at q0 q1 q2 q3 q4 q5 q6
        have k0 : (0 : Int) ≤ (q : Int) := by omega
        have k1 : (q : Int) < (es.length : Int) := by omega
        go_wp2_with fail
        refine HC.out.mono ?_
        rintro r w1 ⟨u1, rfl, hrow⟩
        have HR1 := Lib.hid (HX.out _ _ hrow)
        clear hrow q0 q1 q2 q3 q4 q5 q6
        go_wp2
        go_roundw
        case rel => exact ⟨q + 1, by omega, by go_num, HR1⟩
        case measure => simp [intOf]; omega
      · obtain rfl : q = es.length := by omega
        rw [List.take_length] at HR
        have k1 : ¬ (es.length : Int) < (es.length : Int) := by omega
        go_wp2
        go_ret
        exact ⟨_, rfl, HR.out⟩
end Go.Proofs.Ytihleddhjmejoaa
