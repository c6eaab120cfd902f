/- The law's made, do, awake; the reference's Raw; the law ExecRenames, plainly and walked. -/
import Derived.Test.YtokcbcjonbjkgaaGreatDoorDbBase
import Derived.Test.YtokcbcjonbjkgaaGreatDoorHeldL
import Derived.Laws.AppendOwnNone
import Derived.Deep.Cut
import Derived.Deep.DeepCutAuto
import Derived.Test.YtokcbcjonbjkgaaGreatDoorItSame
import Derived.BigQuiet
import Derived.LoopTactic
import Derived.Sort.Walk0
import Derived.Test.YtokcbcjonbjkgaaGreatDoorFdw
import Derived.Test.YtokcbcjonbjkgaaGreatDoorItMay
import Derived.Test.YtokcbcjonbjkgaaGreatDoorItBoxes
import Derived.Test.YtokcbcjonbjkgaaGreatDoorBytes
import Derived.Test.YtokcbcjonbjkgaaGreatDoorRnC
import Derived.Maps.OwnIn
import Derived.Test.YtokcbcjonbjkgaaGreatDoorDbRawL
namespace Go.Proofs.YtokcbcjonbjkgaaGreatDoor
open Go.RowKit Go.Shelf
attribute [local go_sem] Oper.semAt_some
set_option linter.unusedVariables false
set_option linter.unusedSimpArgs false

/-- one effect: one round, at pairs with their places. -/
def stepL (e : Le) (st : List Lp × Bool) (p : Lp) : List Lp × Bool :=
  let st' := if !st.2 && !decide (p.key < e.key) then (st.1 ++ [⟨e.key, e.it⟩], true) else st
  (if p.key = e.key then st'.1 else st'.1 ++ [p], st'.2)
def foldL (e : Le) (ps : List Lp) : List Lp × Bool := ps.foldl (stepL e) ([], e.gone)
def app1L (ps : List Lp) (e : Le) : List Lp := if (foldL e ps).2 then (foldL e ps).1 else (foldL e ps).1 ++ [⟨e.key, e.it⟩]
theorem foldL_snoc (e : Le) (l : List Lp) (x : Lp) : foldL e (l ++ [x]) = stepL e (foldL e l) x := by simp [foldL, List.foldl_append]
theorem foldL_zero (b : Bool) : 0 + (if b = true then 0 else 1) ≤ 0 + 1 := by cases b <;> simp
theorem foldL_len (e : Le) (l : List Lp) : (foldL e l).1.length + (if (foldL e l).2 = true then 0 else 1) ≤ l.length + 1 := by
  have h : ∀ n, ∀ l : List Lp, l.length = n → (foldL e l).1.length + (if (foldL e l).2 = true then 0 else 1) ≤ n + 1 := by
    intro n
    induction n with
    | zero =>
              intro l hl
              rw [List.length_eq_zero_iff.1 hl]
              exact foldL_zero e.gone
    | succ n ih =>
      intro l hl
      obtain ⟨l', x, rfl⟩ : ∃ l' x, l = l' ++ [x] := ⟨l.dropLast, l.getLast (by intro h; rw [h] at hl; simp at hl), (List.dropLast_concat_getLast _).symm⟩
      have hl' : l'.length = n := by simpa using hl
      have := ih l' hl'
      rw [foldL_snoc]
      generalize foldL e l' = st at *
      obtain ⟨o, b⟩ := st
      simp only [stepL]
      by_cases h1 : x.key < e.key <;> by_cases h2 : x.key = e.key <;> cases b <;> simp [h1, h2] at this ⊢ <;> omega
  exact h _ l rfl
theorem foldL_mem (e : Le) (l : List Lp) : ∀ p ∈ (foldL e l).1, p ∈ l ∨ p = ⟨e.key, e.it⟩ := by
  have h : ∀ n, ∀ l : List Lp, l.length = n → ∀ p ∈ (foldL e l).1, p ∈ l ∨ p = ⟨e.key, e.it⟩ := by
    intro n
    induction n with
    | zero => intro l hl; rw [List.length_eq_zero_iff.1 hl]; simp [foldL]
    | succ n ih =>
      intro l hl
      obtain ⟨l', x, rfl⟩ : ∃ l' x, l = l' ++ [x] := ⟨l.dropLast, l.getLast (by intro h; rw [h] at hl; simp at hl), (List.dropLast_concat_getLast _).symm⟩
      have hl' : l'.length = n := by simpa using hl
      have hi := ih l' hl'
      rw [foldL_snoc]
      unfold stepL
      dsimp only
      intro p hp
      have : p ∈ (foldL e l').1 ∨ p = ⟨e.key, e.it⟩ ∨ p = x := by
        split at hp <;> split at hp <;> (try simp only [List.mem_append, List.mem_singleton] at hp) <;> first | (rcases hp with (hp | hp) | hp) | (rcases hp with hp | hp) | skip
        all_goals first | exact .inl hp | exact .inr (.inl hp) | exact .inr (.inr hp)
      rcases this with h | h | h
      · rcases hi p h with h | h
        · exact .inl (List.mem_append_left _ h)
        · exact .inr h
      · exact .inr h
      · exact .inl (by rw [h]; simp)
  exact h _ l rfl
theorem app1L_mem (ps : List Lp) (e : Le) : ∀ p ∈ app1L ps e, p ∈ ps ∨ p = ⟨e.key, e.it⟩ := by
  intro p hp
  unfold app1L at hp
  split at hp
  · exact foldL_mem e ps p hp
  · rcases List.mem_append.1 hp with hp | hp
    · exact foldL_mem e ps p hp
    · exact .inr (List.mem_singleton.1 hp)
theorem app1L_len (ps : List Lp) (e : Le) : (app1L ps e).length ≤ ps.length + 1 := by
  have := foldL_len e ps
  unfold app1L
  split
  · omega
  · rename_i h
    rw [if_neg h] at this
    rw [List.length_append]
    simp only [List.length_cons, List.length_nil]
    omega
theorem lt_neL {a b : List UInt8} (h : a < b) : ¬ a = b := fun e => List.lt_irrefl b (e ▸ h)

/-- the effect in a box. -/
def effW (w : World) (e : Le) : World := w.alloc (.cells #[.string ⟨e.key.toArray⟩, .bool e.gone, .int .i64 e.it.k, .string ⟨e.it.s.toArray⟩, .slice e.it.aF e.it.fs.length e.it.cF, .slice e.it.aL e.it.ws.length e.it.cL, .int .i64 e.it.x] 40)
theorem effW_at (w : World) (e : Le) : EAt (effW w e) w.heap.size 0 e := by
  have h : (effW w e).heap[w.heap.size]? = some _ := World.alloc_heap_new w (.cells #[.string ⟨e.key.toArray⟩, .bool e.gone, .int .i64 e.it.k, .string ⟨e.it.s.toArray⟩, .slice e.it.aF e.it.fs.length e.it.cF, .slice e.it.aL e.it.ws.length e.it.cL, .int .i64 e.it.x] 40)
  have g := fun j => cell_of_row _ w.heap.size j _ 40 (0, 0) h
  exact ⟨(g 0).trans rfl, (g 1).trans rfl, (g 2).trans rfl, (g 3).trans rfl, (g 4).trans rfl, (g 5).trans rfl, (g 6).trans rfl⟩
theorem effW_below (w : World) (e : Le) : Below w.heap.size w (effW w e) := (Below.refl _ w).alloc (Nat.le_refl _) _
theorem effW_size (w : World) (e : Le) : w.heap.size < (effW w e).heap.size := by unfold effW; simp
theorem ownsRow_base {w : World} {base base' : Nat} {t : TypeId} {sz n : Nat} {v : Value} {xs : List Value} (h : w.ownsRow base t sz v n xs) (hb : base' ≤ base) : w.ownsRow base' t sz v n xs := by
  obtain ⟨h0, h1⟩ := h
  refine ⟨h0, ?_⟩
  rcases h1 with h1 | ⟨g, cap, cur, h1, hg, rest⟩
  · exact .inl h1
  · exact .inr ⟨g, cap, cur, h1, by omega, rest⟩
theorem RowP.base {w W0 W : World} {v : Value} {ps : List Lp} (h : RowP W0 v ps W) (hb : Below w.heap.size w W0) (hp : ∀ p ∈ ps, p.Ok w) : RowP w v ps W := ⟨ownsRow_base h.1 hb.size, hb.trans (h.2.1.mono hb.size), hp⟩
theorem PAt.cs {w : World} {b off : Nat} {p : Lp} (h : PAt w b off p) : True := trivial

/-- an effect as an argument. -/
def effV (e : Le) : Value := .agg #[.string ⟨e.key.toArray⟩, .bool e.gone, .int .i64 e.it.k, .string ⟨e.it.s.toArray⟩, .slice e.it.aF e.it.fs.length e.it.cF, .slice e.it.aL e.it.ws.length e.it.cL, .int .i64 e.it.x]

set_option maxRecDepth 100000 in
set_option maxHeartbeats 16000000 in
theorem apply_any (a : Option Addr) (cap : Nat) (ps : List Lp) (e : Le) (w : World) (hP : Prs w a cap ps) (hE : e.Ok w) (hn : ps.length ≤ 1000000) :
    Calls Tryz.prog 22 #[.slice a ps.length cap, effV e] w fun r W => ∃ u, r = .returned u ∧ RowP w u (app1L ps e) W := by
  obtain ⟨iP, hiP, hiP0, hiP1, hiP2⟩ := info_parts infoP
  have HP := Lib.hid hP
  have hnI : (ps.length : Int) ≤ 1000000 := by omega
  have HBX := Lib.hid (effW_at w e)
  have HBW := Lib.hid (effW_below w e)
  have hB := effW_size w e
  have HFIN := Lib.hid (fun v W (h : RowP (effW w e) v (app1L ps e) W) => h.base (effW_below w e) (fun p hp => by
    rcases app1L_mem ps e p hp with h | h
    · exact hP.2 p h
    · rw [h]; exact hE))
  have HEO : Hid (Lp.Ok (effW w e) ⟨e.key, e.it⟩) := Lib.hid ⟨hE.1, hE.2.later (effW_below w e)⟩
  have HF := Lib.hid (fun q (h : q < ps.length) => (show foldL e (ps.take (q + 1)) = stepL e (foldL e (ps.take q)) (ps.getD q Lp.zero) by rw [take_succ_getD (d := Lp.zero) h, foldL_snoc]))
  have HFL := Lib.hid (fun q => foldL_len e (ps.take q))
  have HS := Lib.hid (show app1L ps e = if (foldL e (ps.take ps.length)).2 then (foldL e (ps.take ps.length)).1 else (foldL e (ps.take ps.length)).1 ++ [⟨e.key, e.it⟩] by rw [List.take_length]; rfl)
  have HF0 : Hid ((foldL e (ps.take 0)) = ([], e.gone)) := Lib.hid rfl
  clear hP hE
  have hBW2 : effW w e = w.alloc (.cells #[.string ⟨e.key.toArray⟩, .bool e.gone, .int .i64 e.it.k, .string ⟨e.it.s.toArray⟩, .slice e.it.aF e.it.fs.length e.it.cF, .slice e.it.aL e.it.ws.length e.it.cL, .int .i64 e.it.x] 40) := rfl
  unfold effV
  have c1' := HBX.out.2.1
  simp only [Nat.zero_add] at c1'
  rw [hBW2] at c1'
  clear hBW2
  go_enter Tryz.func22, Tryz.ntmps22
  go_wp2
  clear c1'
  go_loopw [5, 6, 7] (fun u bb i wr => ∃ q : Nat, q ≤ ps.length ∧ i = .int .i64 q ∧ bb = .bool (foldL e (ps.take q)).2 ∧ Hid (RowP (effW w e) u (foldL e (ps.take q)).1 wr)) (fun _ _ i _ => ps.length - (intOf i).toNat)
  case atStart => exact ⟨0, Nat.zero_le _, rfl, rfl, Lib.hid (RowP.none (Below.refl _ _))⟩
  case round =>
    obtain ⟨q, hq, rfl, rfl, HQ⟩ := hrel
    have hfl2 := HFL.out q
    have hfl3 := List.length_take_le q ps
    have hzr := HQ.out.2.1.size
    have HBR := Lib.hid (HBX.out.later hB HQ.out.2.1)
    by_cases hlt : q < ps.length
    · obtain ⟨b, off, rfl, hb, hc⟩ := HP.out.get (by omega)
      have HPA := Lib.hid (((hc q hlt).later hb HBW.out).later (Nat.lt_of_lt_of_le hb HBW.out.size) HQ.out.2.1)
      have HPA2 := Lib.hid (fun W (h : Below (effW w e).heap.size (effW w e) W) => ((hc q hlt).later hb HBW.out).later (Nat.lt_of_lt_of_le hb HBW.out.size) h)
      have HBA2 := Lib.hid (fun W (h : Below (effW w e).heap.size (effW w e) W) => HBX.out.later hB h)
      have HOK := Lib.hid (show (ps.getD q Lp.zero).Ok (effW w e) from ⟨(HP.out.at hlt).1, (HP.out.at hlt).2.later HBW.out⟩)
      have HNX := Lib.hid (HF.out q hlt)
      replace hb : b < (effW w e).heap.size := Nat.lt_of_lt_of_le hb HBW.out.size
      clear hc
      obtain ⟨⟨key, k, s, aF, fs, cF, aL, ws, cL, x⟩, hqq⟩ : ∃ p, ps.getD q Lp.zero = p := ⟨_, rfl⟩
      rw [hqq] at HPA HPA2 HOK HNX
      clear hqq
      obtain ⟨st, hst⟩ : ∃ st, foldL e (ps.take q) = st := ⟨_, rfl⟩
      rw [hst] at HNX HQ hfl2 ⊢
      obtain ⟨out, bb⟩ := st
      clear hst
      have hlo : out.length ≤ 2000000 := by have : out.length + (if bb = true then 0 else 1) ≤ (ps.take q).length + 1 := hfl2; omega
      have HQ2 : Hid (RowP (effW w e) u5 out wr) := Lib.hid HQ.out
      clear HQ hfl2 hfl3
      have k0 : (0 : Int) ≤ (q : Int) := by omega
      have k1 : (q : Int) < (ps.length : Int) := by omega
      obtain ⟨q0, q1, q2, q3, q4, q5⟩ := HPA.out
      have hbx := HBR.out
      have HEO2 := HEO
      have HST := Lib.hid (fun b => show stepL e (out, b) ⟨key, k, s, aF, fs, cF, aL, ws, cL, x⟩ = (let st' := if !b && !decide (key < e.key) then (out ++ [⟨e.key, e.it⟩], true) else (out, b); (if key = e.key then st'.1 else st'.1 ++ [⟨key, k, s, aF, fs, cF, aL, ws, cL, x⟩], st'.2)) from rfl)
      obtain ⟨⟨ek, eg, eK, eS, eaF, efs, ecF, eaL, ews, ecL, eX⟩, he⟩ : ∃ e', e = e' := ⟨_, rfl⟩
      have HBA3 : Hid (∀ W, Below (effW w e).heap.size (effW w e) W → EAt W w.heap.size 0 ⟨ek, eg, eK, eS, eaF, efs, ecF, eaL, ews, ecL, eX⟩) := Lib.hid (fun W h => by rw [← he]; exact HBA2.out W h)
      have HEO3 : Hid (Lp.Ok (effW w e) ⟨ek, eK, eS, eaF, efs, ecF, eaL, ews, ecL, eX⟩) := Lib.hid (by have := HEO.out; rw [he] at this; rw [he]; exact this)
      replace hbx : EAt wr w.heap.size 0 ⟨ek, eg, eK, eS, eaF, efs, ecF, eaL, ews, ecL, eX⟩ := by rw [← he]; exact hbx
      replace HST : Hid (∀ b, stepL e (out, b) ⟨key, k, s, aF, fs, cF, aL, ws, cL, x⟩ = (let st' := if !b && !decide (key < ek) then (out ++ [⟨ek, eK, eS, eaF, efs, ecF, eaL, ews, ecL, eX⟩], true) else (out, b); (if key = ek then st'.1 else st'.1 ++ [⟨key, k, s, aF, fs, cF, aL, ws, cL, x⟩], st'.2))) := Lib.hid (fun b => by rw [HST.out b, he])
      clear he HBA2 HEO HEO2
      obtain ⟨c0, c1, c2, c3, c4, c5, c6⟩ := hbx
      simp only [Nat.zero_add] at c0 c1 c2 c3 c4 c5 c6
      show Code.wp _ _ _ _ _
      cases bb
      · skip
        by_cases hs : key < ek
        · have hbl : Op.bytesLess key ek = true := by rw [bytesLess_eq, decide_eq_true hs]
          have HKE := Lib.hid (lt_neL hs)
          have HT := Lib.hid (show stepL e (out, false) ⟨key, k, s, aF, fs, cF, aL, ws, cL, x⟩ = (out ++ [⟨key, k, s, aF, fs, cF, aL, ws, cL, x⟩], false) by rw [HST.out, decide_eq_true hs]; simp [lt_neL hs])
          clear hs HST
          go_wp2
          have HS0 : Below (effW w e).heap.size wr wr.drew := (Below.refl (effW w e).heap.size wr).drew
          refine wp_region_L (S := fun W => Below (effW w e).heap.size wr W) (f := 12) (by kernel_rfl) ?_
          refine wpAnyL_take (i := 0) (some 16) (v := .bool false) rfl rfl (by kernel_rfl) (by kernel_rfl) (by kernel_rfl) (by kernel_rfl) (fun _ _ _ h => h) (by rfl) (fun W hS => ?_) HS0 ?_
          · go_simp
          try simp only [Act.put, List.setIfInBounds_toArray, List.set_cons_zero, List.set_cons_succ]
          refine wpAnyL_take (i := 1) (some 17) (v := .bool true) rfl rfl (by kernel_rfl) (by kernel_rfl) (by kernel_rfl) (by kernel_rfl) (fun _ _ _ h => h) (by rfl) (fun W hS => ?_) HS0 ?_
          · go_simp
          try simp only [Act.put, List.setIfInBounds_toArray, List.set_cons_zero, List.set_cons_succ]
          refine wpAnyL_take (i := 2) (some 18) (v := .bool true) rfl rfl (by kernel_rfl) (by kernel_rfl) (by kernel_rfl) (by kernel_rfl) (fun _ _ _ h => h) (by rfl) (fun W hS => ?_) HS0 ?_
          · go_simp
          try simp only [Act.put, List.setIfInBounds_toArray, List.set_cons_zero, List.set_cons_succ]
          refine wpAnyL_take (i := 3) (some 19) (v := .slice (some ⟨b, off, none⟩) ps.length cap) rfl rfl (by kernel_rfl) (by kernel_rfl) (by kernel_rfl) (by kernel_rfl) (fun _ _ _ h => h) (by rfl) (fun W hS => ?_) HS0 ?_
          · go_simp
          try simp only [Act.put, List.setIfInBounds_toArray, List.set_cons_zero, List.set_cons_succ]
          refine wpAnyL_take (i := 4) (some 20) (v := .int .i64 (q : Int)) rfl rfl (by kernel_rfl) (by kernel_rfl) (by kernel_rfl) (by kernel_rfl) (fun _ _ _ h => h) (by rfl) (fun W hS => ?_) HS0 ?_
          · go_simp
          try simp only [Act.put, List.setIfInBounds_toArray, List.set_cons_zero, List.set_cons_succ]
          refine wpAnyL_take (i := 5) (some 21) (v := .pointer (some ⟨b, off + q * 6, none⟩)) rfl rfl (by kernel_rfl) (by kernel_rfl) (by kernel_rfl) (by kernel_rfl) (fun _ _ _ h => h) (by rfl) (fun W hS => ?_) HS0 ?_
          · go_simp
          try simp only [Act.put, List.setIfInBounds_toArray, List.set_cons_zero, List.set_cons_succ]
          refine wpAnyL_take (i := 6) (some 22) (v := .pointer (some ⟨b, off + q * 6, none⟩)) rfl rfl (by kernel_rfl) (by kernel_rfl) (by kernel_rfl) (by kernel_rfl) (fun _ _ _ h => h) (by rfl) (fun W hS => ?_) HS0 ?_
          · go_simp
          try simp only [Act.put, List.setIfInBounds_toArray, List.set_cons_zero, List.set_cons_succ]
          refine wpAnyL_take (i := 7) (some 23) (v := .string ⟨key.toArray⟩) rfl rfl (by kernel_rfl) (by kernel_rfl) (by kernel_rfl) (by kernel_rfl) (fun _ _ _ h => h) (by rfl) (fun W hS => ?_) HS0 ?_
          · have m0 := (hS.cell (p := ⟨b, off + q * 6, none⟩) hb).trans q0
            go_simp
          try simp only [Act.put, List.setIfInBounds_toArray, List.set_cons_zero, List.set_cons_succ]
          refine wpAnyL_take (i := 8) (some 24) (v := .pointer (some ⟨w.heap.size, 0, none⟩)) rfl rfl (by kernel_rfl) (by kernel_rfl) (by kernel_rfl) (by kernel_rfl) (fun _ _ _ h => h) (by rfl) (fun W hS => ?_) HS0 ?_
          · go_simp
          try simp only [Act.put, List.setIfInBounds_toArray, List.set_cons_zero, List.set_cons_succ]
          refine wpAnyL_take (i := 9) (some 25) (v := .string ⟨ek.toArray⟩) rfl rfl (by kernel_rfl) (by kernel_rfl) (by kernel_rfl) (by kernel_rfl) (fun _ _ _ h => h) (by rfl) (fun W hS => ?_) HS0 ?_
          · have m0 := (hS.cell (p := ⟨w.heap.size, 0, none⟩) hB).trans c0
            go_simp
          try simp only [Act.put, List.setIfInBounds_toArray, List.set_cons_zero, List.set_cons_succ]
          refine wpAnyL_take (i := 10) (some 26) (v := .bool false) rfl rfl (by kernel_rfl) (by kernel_rfl) (by kernel_rfl) (by kernel_rfl) (fun _ _ _ h => h) (by rfl) (fun W hS => ?_) HS0 ?_
          · go_simp
          try simp only [Act.put, List.setIfInBounds_toArray, List.set_cons_zero, List.set_cons_succ]
          refine wpAnyL_one (j := 11) (by kernel_rfl) rfl (by rfl) (fun K hK => ?_)
          go_simp
          refine hK _ _ (fun _ => HS0) ?_
          clear hK K
          try simp only [Act.put, List.setIfInBounds_toArray, List.set_cons_zero, List.set_cons_succ]
          refine wpAnyL_done (by kernel_rfl) ?_ _
          go_wp2
          have HS0 : Below (effW w e).heap.size wr.drew wr.drew.drew := (Below.refl (effW w e).heap.size wr.drew).drew
          refine wp_region_L (S := fun W => Below (effW w e).heap.size wr.drew W) (f := 8) (by kernel_rfl) ?_
          refine wpAnyL_take (i := 0) (some 36) (v := .slice (some ⟨b, off, none⟩) ps.length cap) rfl rfl (by kernel_rfl) (by kernel_rfl) (by kernel_rfl) (by kernel_rfl) (fun _ _ _ h => h) (by rfl) (fun W hS => ?_) HS0 ?_
          · go_simp
          try simp only [Act.put, List.setIfInBounds_toArray, List.set_cons_zero, List.set_cons_succ]
          refine wpAnyL_take (i := 1) (some 37) (v := .int .i64 (q : Int)) rfl rfl (by kernel_rfl) (by kernel_rfl) (by kernel_rfl) (by kernel_rfl) (fun _ _ _ h => h) (by rfl) (fun W hS => ?_) HS0 ?_
          · go_simp
          try simp only [Act.put, List.setIfInBounds_toArray, List.set_cons_zero, List.set_cons_succ]
          refine wpAnyL_take (i := 2) (some 38) (v := .pointer (some ⟨b, off + q * 6, none⟩)) rfl rfl (by kernel_rfl) (by kernel_rfl) (by kernel_rfl) (by kernel_rfl) (fun _ _ _ h => h) (by rfl) (fun W hS => ?_) HS0 ?_
          · go_simp
          try simp only [Act.put, List.setIfInBounds_toArray, List.set_cons_zero, List.set_cons_succ]
          refine wpAnyL_take (i := 3) (some 39) (v := .pointer (some ⟨b, off + q * 6, none⟩)) rfl rfl (by kernel_rfl) (by kernel_rfl) (by kernel_rfl) (by kernel_rfl) (fun _ _ _ h => h) (by rfl) (fun W hS => ?_) HS0 ?_
          · go_simp
          try simp only [Act.put, List.setIfInBounds_toArray, List.set_cons_zero, List.set_cons_succ]
          refine wpAnyL_take (i := 4) (some 40) (v := .string ⟨key.toArray⟩) rfl rfl (by kernel_rfl) (by kernel_rfl) (by kernel_rfl) (by kernel_rfl) (fun _ _ _ h => h) (by rfl) (fun W hS => ?_) HS0 ?_
          · have m0 := (hS.cell (p := ⟨b, off + q * 6, none⟩) hb).trans q0
            go_simp
          try simp only [Act.put, List.setIfInBounds_toArray, List.set_cons_zero, List.set_cons_succ]
          refine wpAnyL_take (i := 5) (some 41) (v := .pointer (some ⟨w.heap.size, 0, none⟩)) rfl rfl (by kernel_rfl) (by kernel_rfl) (by kernel_rfl) (by kernel_rfl) (fun _ _ _ h => h) (by rfl) (fun W hS => ?_) HS0 ?_
          · go_simp
          try simp only [Act.put, List.setIfInBounds_toArray, List.set_cons_zero, List.set_cons_succ]
          refine wpAnyL_take (i := 6) (some 42) (v := .string ⟨ek.toArray⟩) rfl rfl (by kernel_rfl) (by kernel_rfl) (by kernel_rfl) (by kernel_rfl) (fun _ _ _ h => h) (by rfl) (fun W hS => ?_) HS0 ?_
          · have m0 := (hS.cell (p := ⟨w.heap.size, 0, none⟩) hB).trans c0
            go_simp
          try simp only [Act.put, List.setIfInBounds_toArray, List.set_cons_zero, List.set_cons_succ]
          refine wpAnyL_one (j := 7) (by kernel_rfl) rfl (by rfl) (fun K hK => ?_)
          refine oper_wp_valD (some 43) (v := .bool true) (w' := wr.drew.drew) rfl (by
            go_simp
            exact HKE.out) ?_
          refine hK _ _ (fun _ => HS0) ?_
          clear hK K
          try simp only [Act.put, List.setIfInBounds_toArray, List.set_cons_zero, List.set_cons_succ]
          refine wpAnyL_done (by kernel_rfl) ?_ _
          go_wp2_with (at_builtin; refine wpList_append_own _ rfl (.tmp 44) (.tmp 49) 32 rfl (effW w e).heap.size 72 iP _ 6 96 Tryz.underlying32 hiP hiP0 hiP1 hiP2 rfl (by decide) _ _ _ rfl (HQ2.out.drew.drew.1.alloc _) ⟨wr.heap.size, 0, none⟩ 1 1 [.string ⟨key.toArray⟩, .int .i64 k, .string ⟨s.toArray⟩, .slice aF fs.length cF, .slice aL ws.length cL, .int .i64 x] rfl rfl (row_news _ _ rfl _ _) (Lp.cs_one ⟨key, k, s, aF, fs, cF, aL, ws, cL, x⟩) (by unfold maxLen; omega) (by omega) (by simp; omega) ?_; intro v1 w1 hown hgrow _; have HR1 := Lib.hid (RowP.append (e := ⟨key, k, s, aF, fs, cF, aL, ws, cL, x⟩) HQ2.out.drew.drew hown hgrow HOK.out); have hzw1 := HR1.out.2.1.size; clear hown hgrow)
          go_roundw
          case rel => exact ⟨q + 1, by omega, by go_num, by rw [HNX.out, HT.out], Lib.hid (by rw [HNX.out, HT.out]; exact HR1.out)⟩
          case measure => simp [intOf]; omega
        · have hbl : Op.bytesLess key ek = false := by rw [bytesLess_eq, decide_eq_false hs]
          by_cases hke : key = ek
          · have HKE := Lib.hid hke
            have HT := Lib.hid (show stepL e (out, false) ⟨key, k, s, aF, fs, cF, aL, ws, cL, x⟩ = (out ++ [⟨ek, eK, eS, eaF, efs, ecF, eaL, ews, ecL, eX⟩], true) by rw [HST.out, decide_eq_false hs]; simp [hke])
            clear hs hke HST
            go_wp2
            have HS0 : Below (effW w e).heap.size wr wr.drew := (Below.refl (effW w e).heap.size wr).drew
            refine wp_region_L (S := fun W => Below (effW w e).heap.size wr W) (f := 12) (by kernel_rfl) ?_
            refine wpAnyL_take (i := 0) (some 16) (v := .bool false) rfl rfl (by kernel_rfl) (by kernel_rfl) (by kernel_rfl) (by kernel_rfl) (fun _ _ _ h => h) (by rfl) (fun W hS => ?_) HS0 ?_
            · go_simp
            try simp only [Act.put, List.setIfInBounds_toArray, List.set_cons_zero, List.set_cons_succ]
            refine wpAnyL_take (i := 1) (some 17) (v := .bool true) rfl rfl (by kernel_rfl) (by kernel_rfl) (by kernel_rfl) (by kernel_rfl) (fun _ _ _ h => h) (by rfl) (fun W hS => ?_) HS0 ?_
            · go_simp
            try simp only [Act.put, List.setIfInBounds_toArray, List.set_cons_zero, List.set_cons_succ]
            refine wpAnyL_take (i := 2) (some 18) (v := .bool true) rfl rfl (by kernel_rfl) (by kernel_rfl) (by kernel_rfl) (by kernel_rfl) (fun _ _ _ h => h) (by rfl) (fun W hS => ?_) HS0 ?_
            · go_simp
            try simp only [Act.put, List.setIfInBounds_toArray, List.set_cons_zero, List.set_cons_succ]
            refine wpAnyL_take (i := 3) (some 19) (v := .slice (some ⟨b, off, none⟩) ps.length cap) rfl rfl (by kernel_rfl) (by kernel_rfl) (by kernel_rfl) (by kernel_rfl) (fun _ _ _ h => h) (by rfl) (fun W hS => ?_) HS0 ?_
            · go_simp
            try simp only [Act.put, List.setIfInBounds_toArray, List.set_cons_zero, List.set_cons_succ]
            refine wpAnyL_take (i := 4) (some 20) (v := .int .i64 (q : Int)) rfl rfl (by kernel_rfl) (by kernel_rfl) (by kernel_rfl) (by kernel_rfl) (fun _ _ _ h => h) (by rfl) (fun W hS => ?_) HS0 ?_
            · go_simp
            try simp only [Act.put, List.setIfInBounds_toArray, List.set_cons_zero, List.set_cons_succ]
            refine wpAnyL_take (i := 5) (some 21) (v := .pointer (some ⟨b, off + q * 6, none⟩)) rfl rfl (by kernel_rfl) (by kernel_rfl) (by kernel_rfl) (by kernel_rfl) (fun _ _ _ h => h) (by rfl) (fun W hS => ?_) HS0 ?_
            · go_simp
            try simp only [Act.put, List.setIfInBounds_toArray, List.set_cons_zero, List.set_cons_succ]
            refine wpAnyL_take (i := 6) (some 22) (v := .pointer (some ⟨b, off + q * 6, none⟩)) rfl rfl (by kernel_rfl) (by kernel_rfl) (by kernel_rfl) (by kernel_rfl) (fun _ _ _ h => h) (by rfl) (fun W hS => ?_) HS0 ?_
            · go_simp
            try simp only [Act.put, List.setIfInBounds_toArray, List.set_cons_zero, List.set_cons_succ]
            refine wpAnyL_take (i := 7) (some 23) (v := .string ⟨key.toArray⟩) rfl rfl (by kernel_rfl) (by kernel_rfl) (by kernel_rfl) (by kernel_rfl) (fun _ _ _ h => h) (by rfl) (fun W hS => ?_) HS0 ?_
            · have m0 := (hS.cell (p := ⟨b, off + q * 6, none⟩) hb).trans q0
              go_simp
            try simp only [Act.put, List.setIfInBounds_toArray, List.set_cons_zero, List.set_cons_succ]
            refine wpAnyL_take (i := 8) (some 24) (v := .pointer (some ⟨w.heap.size, 0, none⟩)) rfl rfl (by kernel_rfl) (by kernel_rfl) (by kernel_rfl) (by kernel_rfl) (fun _ _ _ h => h) (by rfl) (fun W hS => ?_) HS0 ?_
            · go_simp
            try simp only [Act.put, List.setIfInBounds_toArray, List.set_cons_zero, List.set_cons_succ]
            refine wpAnyL_take (i := 9) (some 25) (v := .string ⟨ek.toArray⟩) rfl rfl (by kernel_rfl) (by kernel_rfl) (by kernel_rfl) (by kernel_rfl) (fun _ _ _ h => h) (by rfl) (fun W hS => ?_) HS0 ?_
            · have m0 := (hS.cell (p := ⟨w.heap.size, 0, none⟩) hB).trans c0
              go_simp
            try simp only [Act.put, List.setIfInBounds_toArray, List.set_cons_zero, List.set_cons_succ]
            refine wpAnyL_take (i := 10) (some 26) (v := .bool true) rfl rfl (by kernel_rfl) (by kernel_rfl) (by kernel_rfl) (by kernel_rfl) (fun _ _ _ h => h) (by rfl) (fun W hS => ?_) HS0 ?_
            · go_simp
            try simp only [Act.put, List.setIfInBounds_toArray, List.set_cons_zero, List.set_cons_succ]
            refine wpAnyL_one (j := 11) (by kernel_rfl) rfl (by rfl) (fun K hK => ?_)
            go_simp
            refine hK _ _ (fun _ => HS0) ?_
            clear hK K
            try simp only [Act.put, List.setIfInBounds_toArray, List.set_cons_zero, List.set_cons_succ]
            refine wpAnyL_done (by kernel_rfl) ?_ _
            go_wp2_with (at_builtin; refine wpList_append_own _ rfl (.tmp 28) (.tmp 34) 32 rfl (effW w e).heap.size 72 iP _ 6 96 Tryz.underlying32 hiP hiP0 hiP1 hiP2 rfl (by decide) _ _ _ rfl (HQ2.out.drew.1.alloc _) ⟨wr.heap.size, 0, none⟩ 1 1 [.string ⟨ek.toArray⟩, .int .i64 eK, .string ⟨eS.toArray⟩, .slice eaF efs.length ecF, .slice eaL ews.length ecL, .int .i64 eX] rfl rfl (row_news _ _ rfl _ _) (Lp.cs_one ⟨ek, eK, eS, eaF, efs, ecF, eaL, ews, ecL, eX⟩) (by unfold maxLen; omega) (by omega) (by simp; omega) ?_; intro v1 w1 hown hgrow _; have HR1 := Lib.hid (RowP.append (e := ⟨ek, eK, eS, eaF, efs, ecF, eaL, ews, ecL, eX⟩) HQ2.out.drew hown hgrow HEO3.out); have hzw1 := HR1.out.2.1.size; clear hown hgrow)
            obtain ⟨r0, r1, r2, r3, r4, r5⟩ := HPA2.out w1 HR1.out.2.1
            obtain ⟨d0, -⟩ := HBA3.out w1 HR1.out.2.1
            clear q0 q1 q2 q3 q4 q5 c0 c1 c2 c3 c4 c5 c6
            have HS0 : Below (effW w e).heap.size w1 w1.drew := (Below.refl (effW w e).heap.size w1).drew
            refine wp_region_L (S := fun W => Below (effW w e).heap.size w1 W) (f := 8) (by kernel_rfl) ?_
            refine wpAnyL_take (i := 0) (some 36) (v := .slice (some ⟨b, off, none⟩) ps.length cap) rfl rfl (by kernel_rfl) (by kernel_rfl) (by kernel_rfl) (by kernel_rfl) (fun _ _ _ h => h) (by rfl) (fun W hS => ?_) HS0 ?_
            · go_simp
            try simp only [Act.put, List.setIfInBounds_toArray, List.set_cons_zero, List.set_cons_succ]
            refine wpAnyL_take (i := 1) (some 37) (v := .int .i64 (q : Int)) rfl rfl (by kernel_rfl) (by kernel_rfl) (by kernel_rfl) (by kernel_rfl) (fun _ _ _ h => h) (by rfl) (fun W hS => ?_) HS0 ?_
            · go_simp
            try simp only [Act.put, List.setIfInBounds_toArray, List.set_cons_zero, List.set_cons_succ]
            refine wpAnyL_take (i := 2) (some 38) (v := .pointer (some ⟨b, off + q * 6, none⟩)) rfl rfl (by kernel_rfl) (by kernel_rfl) (by kernel_rfl) (by kernel_rfl) (fun _ _ _ h => h) (by rfl) (fun W hS => ?_) HS0 ?_
            · go_simp
            try simp only [Act.put, List.setIfInBounds_toArray, List.set_cons_zero, List.set_cons_succ]
            refine wpAnyL_take (i := 3) (some 39) (v := .pointer (some ⟨b, off + q * 6, none⟩)) rfl rfl (by kernel_rfl) (by kernel_rfl) (by kernel_rfl) (by kernel_rfl) (fun _ _ _ h => h) (by rfl) (fun W hS => ?_) HS0 ?_
            · go_simp
            try simp only [Act.put, List.setIfInBounds_toArray, List.set_cons_zero, List.set_cons_succ]
            refine wpAnyL_take (i := 4) (some 40) (v := .string ⟨key.toArray⟩) rfl rfl (by kernel_rfl) (by kernel_rfl) (by kernel_rfl) (by kernel_rfl) (fun _ _ _ h => h) (by rfl) (fun W hS => ?_) HS0 ?_
            · have m0 := (hS.cell (p := ⟨b, off + q * 6, none⟩) hb).trans r0
              go_simp
            try simp only [Act.put, List.setIfInBounds_toArray, List.set_cons_zero, List.set_cons_succ]
            refine wpAnyL_take (i := 5) (some 41) (v := .pointer (some ⟨w.heap.size, 0, none⟩)) rfl rfl (by kernel_rfl) (by kernel_rfl) (by kernel_rfl) (by kernel_rfl) (fun _ _ _ h => h) (by rfl) (fun W hS => ?_) HS0 ?_
            · go_simp
            try simp only [Act.put, List.setIfInBounds_toArray, List.set_cons_zero, List.set_cons_succ]
            refine wpAnyL_take (i := 6) (some 42) (v := .string ⟨ek.toArray⟩) rfl rfl (by kernel_rfl) (by kernel_rfl) (by kernel_rfl) (by kernel_rfl) (fun _ _ _ h => h) (by rfl) (fun W hS => ?_) HS0 ?_
            · have m0 := (hS.cell (p := ⟨w.heap.size, 0, none⟩) hB).trans d0
              go_simp
            try simp only [Act.put, List.setIfInBounds_toArray, List.set_cons_zero, List.set_cons_succ]
            refine wpAnyL_one (j := 7) (by kernel_rfl) rfl (by rfl) (fun K hK => ?_)
            refine oper_wp_valD (some 43) (v := .bool false) (w' := w1.drew) rfl (by
              go_simp
              exact HKE.out) ?_
            refine hK _ _ (fun _ => HS0) ?_
            clear hK K
            try simp only [Act.put, List.setIfInBounds_toArray, List.set_cons_zero, List.set_cons_succ]
            refine wpAnyL_done (by kernel_rfl) ?_ _
            go_wp2
            go_roundw
            case rel => exact ⟨q + 1, by omega, by go_num, by rw [HNX.out, HT.out], Lib.hid (by rw [HNX.out, HT.out]; exact HR1.out.drew)⟩
            case measure => simp [intOf]; omega
          · have HKE := Lib.hid hke
            have HT := Lib.hid (show stepL e (out, false) ⟨key, k, s, aF, fs, cF, aL, ws, cL, x⟩ = (out ++ [⟨ek, eK, eS, eaF, efs, ecF, eaL, ews, ecL, eX⟩] ++ [⟨key, k, s, aF, fs, cF, aL, ws, cL, x⟩], true) by rw [HST.out, decide_eq_false hs]; simp [hke])
            have hlo2 : (out ++ [(⟨ek, eK, eS, eaF, efs, ecF, eaL, ews, ecL, eX⟩ : Lp)]).length ≤ 2000001 := by rw [List.length_append]; simp; omega
            clear hs hke HST
            go_wp2
            have HS0 : Below (effW w e).heap.size wr wr.drew := (Below.refl (effW w e).heap.size wr).drew
            refine wp_region_L (S := fun W => Below (effW w e).heap.size wr W) (f := 12) (by kernel_rfl) ?_
            refine wpAnyL_take (i := 0) (some 16) (v := .bool false) rfl rfl (by kernel_rfl) (by kernel_rfl) (by kernel_rfl) (by kernel_rfl) (fun _ _ _ h => h) (by rfl) (fun W hS => ?_) HS0 ?_
            · go_simp
            try simp only [Act.put, List.setIfInBounds_toArray, List.set_cons_zero, List.set_cons_succ]
            refine wpAnyL_take (i := 1) (some 17) (v := .bool true) rfl rfl (by kernel_rfl) (by kernel_rfl) (by kernel_rfl) (by kernel_rfl) (fun _ _ _ h => h) (by rfl) (fun W hS => ?_) HS0 ?_
            · go_simp
            try simp only [Act.put, List.setIfInBounds_toArray, List.set_cons_zero, List.set_cons_succ]
            refine wpAnyL_take (i := 2) (some 18) (v := .bool true) rfl rfl (by kernel_rfl) (by kernel_rfl) (by kernel_rfl) (by kernel_rfl) (fun _ _ _ h => h) (by rfl) (fun W hS => ?_) HS0 ?_
            · go_simp
            try simp only [Act.put, List.setIfInBounds_toArray, List.set_cons_zero, List.set_cons_succ]
            refine wpAnyL_take (i := 3) (some 19) (v := .slice (some ⟨b, off, none⟩) ps.length cap) rfl rfl (by kernel_rfl) (by kernel_rfl) (by kernel_rfl) (by kernel_rfl) (fun _ _ _ h => h) (by rfl) (fun W hS => ?_) HS0 ?_
            · go_simp
            try simp only [Act.put, List.setIfInBounds_toArray, List.set_cons_zero, List.set_cons_succ]
            refine wpAnyL_take (i := 4) (some 20) (v := .int .i64 (q : Int)) rfl rfl (by kernel_rfl) (by kernel_rfl) (by kernel_rfl) (by kernel_rfl) (fun _ _ _ h => h) (by rfl) (fun W hS => ?_) HS0 ?_
            · go_simp
            try simp only [Act.put, List.setIfInBounds_toArray, List.set_cons_zero, List.set_cons_succ]
            refine wpAnyL_take (i := 5) (some 21) (v := .pointer (some ⟨b, off + q * 6, none⟩)) rfl rfl (by kernel_rfl) (by kernel_rfl) (by kernel_rfl) (by kernel_rfl) (fun _ _ _ h => h) (by rfl) (fun W hS => ?_) HS0 ?_
            · go_simp
            try simp only [Act.put, List.setIfInBounds_toArray, List.set_cons_zero, List.set_cons_succ]
            refine wpAnyL_take (i := 6) (some 22) (v := .pointer (some ⟨b, off + q * 6, none⟩)) rfl rfl (by kernel_rfl) (by kernel_rfl) (by kernel_rfl) (by kernel_rfl) (fun _ _ _ h => h) (by rfl) (fun W hS => ?_) HS0 ?_
            · go_simp
            try simp only [Act.put, List.setIfInBounds_toArray, List.set_cons_zero, List.set_cons_succ]
            refine wpAnyL_take (i := 7) (some 23) (v := .string ⟨key.toArray⟩) rfl rfl (by kernel_rfl) (by kernel_rfl) (by kernel_rfl) (by kernel_rfl) (fun _ _ _ h => h) (by rfl) (fun W hS => ?_) HS0 ?_
            · have m0 := (hS.cell (p := ⟨b, off + q * 6, none⟩) hb).trans q0
              go_simp
            try simp only [Act.put, List.setIfInBounds_toArray, List.set_cons_zero, List.set_cons_succ]
            refine wpAnyL_take (i := 8) (some 24) (v := .pointer (some ⟨w.heap.size, 0, none⟩)) rfl rfl (by kernel_rfl) (by kernel_rfl) (by kernel_rfl) (by kernel_rfl) (fun _ _ _ h => h) (by rfl) (fun W hS => ?_) HS0 ?_
            · go_simp
            try simp only [Act.put, List.setIfInBounds_toArray, List.set_cons_zero, List.set_cons_succ]
            refine wpAnyL_take (i := 9) (some 25) (v := .string ⟨ek.toArray⟩) rfl rfl (by kernel_rfl) (by kernel_rfl) (by kernel_rfl) (by kernel_rfl) (fun _ _ _ h => h) (by rfl) (fun W hS => ?_) HS0 ?_
            · have m0 := (hS.cell (p := ⟨w.heap.size, 0, none⟩) hB).trans c0
              go_simp
            try simp only [Act.put, List.setIfInBounds_toArray, List.set_cons_zero, List.set_cons_succ]
            refine wpAnyL_take (i := 10) (some 26) (v := .bool true) rfl rfl (by kernel_rfl) (by kernel_rfl) (by kernel_rfl) (by kernel_rfl) (fun _ _ _ h => h) (by rfl) (fun W hS => ?_) HS0 ?_
            · go_simp
            try simp only [Act.put, List.setIfInBounds_toArray, List.set_cons_zero, List.set_cons_succ]
            refine wpAnyL_one (j := 11) (by kernel_rfl) rfl (by rfl) (fun K hK => ?_)
            go_simp
            refine hK _ _ (fun _ => HS0) ?_
            clear hK K
            try simp only [Act.put, List.setIfInBounds_toArray, List.set_cons_zero, List.set_cons_succ]
            refine wpAnyL_done (by kernel_rfl) ?_ _
            go_wp2_with (at_builtin; refine wpList_append_own _ rfl (.tmp 28) (.tmp 34) 32 rfl (effW w e).heap.size 72 iP _ 6 96 Tryz.underlying32 hiP hiP0 hiP1 hiP2 rfl (by decide) _ _ _ rfl (HQ2.out.drew.1.alloc _) ⟨wr.heap.size, 0, none⟩ 1 1 [.string ⟨ek.toArray⟩, .int .i64 eK, .string ⟨eS.toArray⟩, .slice eaF efs.length ecF, .slice eaL ews.length ecL, .int .i64 eX] rfl rfl (row_news _ _ rfl _ _) (Lp.cs_one ⟨ek, eK, eS, eaF, efs, ecF, eaL, ews, ecL, eX⟩) (by unfold maxLen; omega) (by omega) (by simp; omega) ?_; intro v1 w1 hown hgrow _; have HR1 := Lib.hid (RowP.append (e := ⟨ek, eK, eS, eaF, efs, ecF, eaL, ews, ecL, eX⟩) HQ2.out.drew hown hgrow HEO3.out); have hzw1 := HR1.out.2.1.size; clear hown hgrow)
            obtain ⟨r0, r1, r2, r3, r4, r5⟩ := HPA2.out w1 HR1.out.2.1
            obtain ⟨d0, -⟩ := HBA3.out w1 HR1.out.2.1
            clear q0 q1 q2 q3 q4 q5 c0 c1 c2 c3 c4 c5 c6
            have HS0 : Below (effW w e).heap.size w1 w1.drew := (Below.refl (effW w e).heap.size w1).drew
            refine wp_region_L (S := fun W => Below (effW w e).heap.size w1 W) (f := 8) (by kernel_rfl) ?_
            refine wpAnyL_take (i := 0) (some 36) (v := .slice (some ⟨b, off, none⟩) ps.length cap) rfl rfl (by kernel_rfl) (by kernel_rfl) (by kernel_rfl) (by kernel_rfl) (fun _ _ _ h => h) (by rfl) (fun W hS => ?_) HS0 ?_
            · go_simp
            try simp only [Act.put, List.setIfInBounds_toArray, List.set_cons_zero, List.set_cons_succ]
            refine wpAnyL_take (i := 1) (some 37) (v := .int .i64 (q : Int)) rfl rfl (by kernel_rfl) (by kernel_rfl) (by kernel_rfl) (by kernel_rfl) (fun _ _ _ h => h) (by rfl) (fun W hS => ?_) HS0 ?_
            · go_simp
            try simp only [Act.put, List.setIfInBounds_toArray, List.set_cons_zero, List.set_cons_succ]
            refine wpAnyL_take (i := 2) (some 38) (v := .pointer (some ⟨b, off + q * 6, none⟩)) rfl rfl (by kernel_rfl) (by kernel_rfl) (by kernel_rfl) (by kernel_rfl) (fun _ _ _ h => h) (by rfl) (fun W hS => ?_) HS0 ?_
            · go_simp
            try simp only [Act.put, List.setIfInBounds_toArray, List.set_cons_zero, List.set_cons_succ]
            refine wpAnyL_take (i := 3) (some 39) (v := .pointer (some ⟨b, off + q * 6, none⟩)) rfl rfl (by kernel_rfl) (by kernel_rfl) (by kernel_rfl) (by kernel_rfl) (fun _ _ _ h => h) (by rfl) (fun W hS => ?_) HS0 ?_
            · go_simp
            try simp only [Act.put, List.setIfInBounds_toArray, List.set_cons_zero, List.set_cons_succ]
            refine wpAnyL_take (i := 4) (some 40) (v := .string ⟨key.toArray⟩) rfl rfl (by kernel_rfl) (by kernel_rfl) (by kernel_rfl) (by kernel_rfl) (fun _ _ _ h => h) (by rfl) (fun W hS => ?_) HS0 ?_
            · have m0 := (hS.cell (p := ⟨b, off + q * 6, none⟩) hb).trans r0
              go_simp
            try simp only [Act.put, List.setIfInBounds_toArray, List.set_cons_zero, List.set_cons_succ]
            refine wpAnyL_take (i := 5) (some 41) (v := .pointer (some ⟨w.heap.size, 0, none⟩)) rfl rfl (by kernel_rfl) (by kernel_rfl) (by kernel_rfl) (by kernel_rfl) (fun _ _ _ h => h) (by rfl) (fun W hS => ?_) HS0 ?_
            · go_simp
            try simp only [Act.put, List.setIfInBounds_toArray, List.set_cons_zero, List.set_cons_succ]
            refine wpAnyL_take (i := 6) (some 42) (v := .string ⟨ek.toArray⟩) rfl rfl (by kernel_rfl) (by kernel_rfl) (by kernel_rfl) (by kernel_rfl) (fun _ _ _ h => h) (by rfl) (fun W hS => ?_) HS0 ?_
            · have m0 := (hS.cell (p := ⟨w.heap.size, 0, none⟩) hB).trans d0
              go_simp
            try simp only [Act.put, List.setIfInBounds_toArray, List.set_cons_zero, List.set_cons_succ]
            refine wpAnyL_one (j := 7) (by kernel_rfl) rfl (by rfl) (fun K hK => ?_)
            refine oper_wp_valD (some 43) (v := .bool true) (w' := w1.drew) rfl (by
              go_simp
              exact HKE.out) ?_
            refine hK _ _ (fun _ => HS0) ?_
            clear hK K
            try simp only [Act.put, List.setIfInBounds_toArray, List.set_cons_zero, List.set_cons_succ]
            refine wpAnyL_done (by kernel_rfl) ?_ _
            go_wp2_with (at_builtin; refine wpList_append_own _ rfl (.tmp 44) (.tmp 49) 32 rfl (effW w e).heap.size 72 iP _ 6 96 Tryz.underlying32 hiP hiP0 hiP1 hiP2 rfl (by decide) _ _ _ rfl (HR1.out.drew.1.alloc _) ⟨w1.heap.size, 0, none⟩ 1 1 [.string ⟨key.toArray⟩, .int .i64 k, .string ⟨s.toArray⟩, .slice aF fs.length cF, .slice aL ws.length cL, .int .i64 x] rfl rfl (row_news _ _ rfl _ _) (Lp.cs_one ⟨key, k, s, aF, fs, cF, aL, ws, cL, x⟩) (by unfold maxLen; omega) (by omega) (by simp; omega) ?_; intro v2 w2 hown hgrow _; have HR2 := Lib.hid (RowP.append (e := ⟨key, k, s, aF, fs, cF, aL, ws, cL, x⟩) HR1.out.drew hown hgrow HOK.out); have hzw2 := HR2.out.2.1.size; clear hown hgrow)
            go_roundw
            case rel => exact ⟨q + 1, by omega, by go_num, by rw [HNX.out, HT.out], Lib.hid (by rw [HNX.out, HT.out]; exact HR2.out)⟩
            case measure => simp [intOf]; omega
      · skip
        by_cases hke : key = ek
        · have HKE := Lib.hid hke
          have HT := Lib.hid (show stepL e (out, true) ⟨key, k, s, aF, fs, cF, aL, ws, cL, x⟩ = (out, true) by rw [HST.out]; simp [hke])
          clear hke HST
          go_wp2
          have HS0 : Below (effW w e).heap.size wr wr.drew := (Below.refl (effW w e).heap.size wr).drew
          refine wp_region_L (S := fun W => Below (effW w e).heap.size wr W) (f := 12) (by kernel_rfl) ?_
          refine wpAnyL_take (i := 0) (some 16) (v := .bool true) rfl rfl (by kernel_rfl) (by kernel_rfl) (by kernel_rfl) (by kernel_rfl) (fun _ _ _ h => h) (by rfl) (fun W hS => ?_) HS0 ?_
          · go_simp
          try simp only [Act.put, List.setIfInBounds_toArray, List.set_cons_zero, List.set_cons_succ]
          refine wpAnyL_take (i := 1) (some 17) (v := .bool false) rfl rfl (by kernel_rfl) (by kernel_rfl) (by kernel_rfl) (by kernel_rfl) (fun _ _ _ h => h) (by rfl) (fun W hS => ?_) HS0 ?_
          · go_simp
          try simp only [Act.put, List.setIfInBounds_toArray, List.set_cons_zero, List.set_cons_succ]
          refine wpAnyL_take (i := 2) (some 18) (v := .bool false) rfl rfl (by kernel_rfl) (by kernel_rfl) (by kernel_rfl) (by kernel_rfl) (fun _ _ _ h => h) (by rfl) (fun W hS => ?_) HS0 ?_
          · go_simp
          try simp only [Act.put, List.setIfInBounds_toArray, List.set_cons_zero, List.set_cons_succ]
          refine wpAnyL_pass (i := 3) (some 19) rfl rfl (by kernel_rfl) (by kernel_rfl) (by kernel_rfl) (by kernel_rfl) (fun _ _ _ h => h) (by rfl) HS0 ?_
          try simp only [Act.put, List.setIfInBounds_toArray, List.set_cons_zero, List.set_cons_succ]
          refine wpAnyL_pass (i := 4) (some 20) rfl rfl (by kernel_rfl) (by kernel_rfl) (by kernel_rfl) (by kernel_rfl) (fun _ _ _ h => h) (by rfl) HS0 ?_
          try simp only [Act.put, List.setIfInBounds_toArray, List.set_cons_zero, List.set_cons_succ]
          refine wpAnyL_pass (i := 5) (some 21) rfl rfl (by kernel_rfl) (by kernel_rfl) (by kernel_rfl) (by kernel_rfl) (fun _ _ _ h => h) (by rfl) HS0 ?_
          try simp only [Act.put, List.setIfInBounds_toArray, List.set_cons_zero, List.set_cons_succ]
          refine wpAnyL_pass (i := 6) (some 22) rfl rfl (by kernel_rfl) (by kernel_rfl) (by kernel_rfl) (by kernel_rfl) (fun _ _ _ h => h) (by rfl) HS0 ?_
          try simp only [Act.put, List.setIfInBounds_toArray, List.set_cons_zero, List.set_cons_succ]
          refine wpAnyL_pass (i := 7) (some 23) rfl rfl (by kernel_rfl) (by kernel_rfl) (by kernel_rfl) (by kernel_rfl) (fun _ _ _ h => h) (by rfl) HS0 ?_
          try simp only [Act.put, List.setIfInBounds_toArray, List.set_cons_zero, List.set_cons_succ]
          refine wpAnyL_pass (i := 8) (some 24) rfl rfl (by kernel_rfl) (by kernel_rfl) (by kernel_rfl) (by kernel_rfl) (fun _ _ _ h => h) (by rfl) HS0 ?_
          try simp only [Act.put, List.setIfInBounds_toArray, List.set_cons_zero, List.set_cons_succ]
          refine wpAnyL_pass (i := 9) (some 25) rfl rfl (by kernel_rfl) (by kernel_rfl) (by kernel_rfl) (by kernel_rfl) (fun _ _ _ h => h) (by rfl) HS0 ?_
          try simp only [Act.put, List.setIfInBounds_toArray, List.set_cons_zero, List.set_cons_succ]
          refine wpAnyL_pass (i := 10) (some 26) rfl rfl (by kernel_rfl) (by kernel_rfl) (by kernel_rfl) (by kernel_rfl) (fun _ _ _ h => h) (by rfl) HS0 ?_
          try simp only [Act.put, List.setIfInBounds_toArray, List.set_cons_zero, List.set_cons_succ]
          refine wpAnyL_one (j := 11) (by kernel_rfl) rfl (by rfl) (fun K hK => ?_)
          go_simp
          refine hK _ _ (fun _ => HS0) ?_
          clear hK K
          try simp only [Act.put, List.setIfInBounds_toArray, List.set_cons_zero, List.set_cons_succ]
          refine wpAnyL_done (by kernel_rfl) ?_ _
          go_wp2
          have HS0 : Below (effW w e).heap.size wr.drew wr.drew.drew := (Below.refl (effW w e).heap.size wr.drew).drew
          refine wp_region_L (S := fun W => Below (effW w e).heap.size wr.drew W) (f := 8) (by kernel_rfl) ?_
          refine wpAnyL_take (i := 0) (some 36) (v := .slice (some ⟨b, off, none⟩) ps.length cap) rfl rfl (by kernel_rfl) (by kernel_rfl) (by kernel_rfl) (by kernel_rfl) (fun _ _ _ h => h) (by rfl) (fun W hS => ?_) HS0 ?_
          · go_simp
          try simp only [Act.put, List.setIfInBounds_toArray, List.set_cons_zero, List.set_cons_succ]
          refine wpAnyL_take (i := 1) (some 37) (v := .int .i64 (q : Int)) rfl rfl (by kernel_rfl) (by kernel_rfl) (by kernel_rfl) (by kernel_rfl) (fun _ _ _ h => h) (by rfl) (fun W hS => ?_) HS0 ?_
          · go_simp
          try simp only [Act.put, List.setIfInBounds_toArray, List.set_cons_zero, List.set_cons_succ]
          refine wpAnyL_take (i := 2) (some 38) (v := .pointer (some ⟨b, off + q * 6, none⟩)) rfl rfl (by kernel_rfl) (by kernel_rfl) (by kernel_rfl) (by kernel_rfl) (fun _ _ _ h => h) (by rfl) (fun W hS => ?_) HS0 ?_
          · go_simp
          try simp only [Act.put, List.setIfInBounds_toArray, List.set_cons_zero, List.set_cons_succ]
          refine wpAnyL_take (i := 3) (some 39) (v := .pointer (some ⟨b, off + q * 6, none⟩)) rfl rfl (by kernel_rfl) (by kernel_rfl) (by kernel_rfl) (by kernel_rfl) (fun _ _ _ h => h) (by rfl) (fun W hS => ?_) HS0 ?_
          · go_simp
          try simp only [Act.put, List.setIfInBounds_toArray, List.set_cons_zero, List.set_cons_succ]
          refine wpAnyL_take (i := 4) (some 40) (v := .string ⟨key.toArray⟩) rfl rfl (by kernel_rfl) (by kernel_rfl) (by kernel_rfl) (by kernel_rfl) (fun _ _ _ h => h) (by rfl) (fun W hS => ?_) HS0 ?_
          · have m0 := (hS.cell (p := ⟨b, off + q * 6, none⟩) hb).trans q0
            go_simp
          try simp only [Act.put, List.setIfInBounds_toArray, List.set_cons_zero, List.set_cons_succ]
          refine wpAnyL_take (i := 5) (some 41) (v := .pointer (some ⟨w.heap.size, 0, none⟩)) rfl rfl (by kernel_rfl) (by kernel_rfl) (by kernel_rfl) (by kernel_rfl) (fun _ _ _ h => h) (by rfl) (fun W hS => ?_) HS0 ?_
          · go_simp
          try simp only [Act.put, List.setIfInBounds_toArray, List.set_cons_zero, List.set_cons_succ]
          refine wpAnyL_take (i := 6) (some 42) (v := .string ⟨ek.toArray⟩) rfl rfl (by kernel_rfl) (by kernel_rfl) (by kernel_rfl) (by kernel_rfl) (fun _ _ _ h => h) (by rfl) (fun W hS => ?_) HS0 ?_
          · have m0 := (hS.cell (p := ⟨w.heap.size, 0, none⟩) hB).trans c0
            go_simp
          try simp only [Act.put, List.setIfInBounds_toArray, List.set_cons_zero, List.set_cons_succ]
          refine wpAnyL_one (j := 7) (by kernel_rfl) rfl (by rfl) (fun K hK => ?_)
          refine oper_wp_valD (some 43) (v := .bool false) (w' := wr.drew.drew) rfl (by
            go_simp
            exact HKE.out) ?_
          refine hK _ _ (fun _ => HS0) ?_
          clear hK K
          try simp only [Act.put, List.setIfInBounds_toArray, List.set_cons_zero, List.set_cons_succ]
          refine wpAnyL_done (by kernel_rfl) ?_ _
          go_wp2
          go_roundw
          case rel => exact ⟨q + 1, by omega, by go_num, by rw [HNX.out, HT.out], Lib.hid (by rw [HNX.out, HT.out]; exact HQ2.out.drew.drew)⟩
          case measure => simp [intOf]; omega
        · have HKE := Lib.hid hke
          have HT := Lib.hid (show stepL e (out, true) ⟨key, k, s, aF, fs, cF, aL, ws, cL, x⟩ = (out ++ [⟨key, k, s, aF, fs, cF, aL, ws, cL, x⟩], true) by rw [HST.out]; simp [hke])
          clear hke HST
          go_wp2
          have HS0 : Below (effW w e).heap.size wr wr.drew := (Below.refl (effW w e).heap.size wr).drew
          refine wp_region_L (S := fun W => Below (effW w e).heap.size wr W) (f := 12) (by kernel_rfl) ?_
          refine wpAnyL_take (i := 0) (some 16) (v := .bool true) rfl rfl (by kernel_rfl) (by kernel_rfl) (by kernel_rfl) (by kernel_rfl) (fun _ _ _ h => h) (by rfl) (fun W hS => ?_) HS0 ?_
          · go_simp
          try simp only [Act.put, List.setIfInBounds_toArray, List.set_cons_zero, List.set_cons_succ]
          refine wpAnyL_take (i := 1) (some 17) (v := .bool false) rfl rfl (by kernel_rfl) (by kernel_rfl) (by kernel_rfl) (by kernel_rfl) (fun _ _ _ h => h) (by rfl) (fun W hS => ?_) HS0 ?_
          · go_simp
          try simp only [Act.put, List.setIfInBounds_toArray, List.set_cons_zero, List.set_cons_succ]
          refine wpAnyL_take (i := 2) (some 18) (v := .bool false) rfl rfl (by kernel_rfl) (by kernel_rfl) (by kernel_rfl) (by kernel_rfl) (fun _ _ _ h => h) (by rfl) (fun W hS => ?_) HS0 ?_
          · go_simp
          try simp only [Act.put, List.setIfInBounds_toArray, List.set_cons_zero, List.set_cons_succ]
          refine wpAnyL_pass (i := 3) (some 19) rfl rfl (by kernel_rfl) (by kernel_rfl) (by kernel_rfl) (by kernel_rfl) (fun _ _ _ h => h) (by rfl) HS0 ?_
          try simp only [Act.put, List.setIfInBounds_toArray, List.set_cons_zero, List.set_cons_succ]
          refine wpAnyL_pass (i := 4) (some 20) rfl rfl (by kernel_rfl) (by kernel_rfl) (by kernel_rfl) (by kernel_rfl) (fun _ _ _ h => h) (by rfl) HS0 ?_
          try simp only [Act.put, List.setIfInBounds_toArray, List.set_cons_zero, List.set_cons_succ]
          refine wpAnyL_pass (i := 5) (some 21) rfl rfl (by kernel_rfl) (by kernel_rfl) (by kernel_rfl) (by kernel_rfl) (fun _ _ _ h => h) (by rfl) HS0 ?_
          try simp only [Act.put, List.setIfInBounds_toArray, List.set_cons_zero, List.set_cons_succ]
          refine wpAnyL_pass (i := 6) (some 22) rfl rfl (by kernel_rfl) (by kernel_rfl) (by kernel_rfl) (by kernel_rfl) (fun _ _ _ h => h) (by rfl) HS0 ?_
          try simp only [Act.put, List.setIfInBounds_toArray, List.set_cons_zero, List.set_cons_succ]
          refine wpAnyL_pass (i := 7) (some 23) rfl rfl (by kernel_rfl) (by kernel_rfl) (by kernel_rfl) (by kernel_rfl) (fun _ _ _ h => h) (by rfl) HS0 ?_
          try simp only [Act.put, List.setIfInBounds_toArray, List.set_cons_zero, List.set_cons_succ]
          refine wpAnyL_pass (i := 8) (some 24) rfl rfl (by kernel_rfl) (by kernel_rfl) (by kernel_rfl) (by kernel_rfl) (fun _ _ _ h => h) (by rfl) HS0 ?_
          try simp only [Act.put, List.setIfInBounds_toArray, List.set_cons_zero, List.set_cons_succ]
          refine wpAnyL_pass (i := 9) (some 25) rfl rfl (by kernel_rfl) (by kernel_rfl) (by kernel_rfl) (by kernel_rfl) (fun _ _ _ h => h) (by rfl) HS0 ?_
          try simp only [Act.put, List.setIfInBounds_toArray, List.set_cons_zero, List.set_cons_succ]
          refine wpAnyL_pass (i := 10) (some 26) rfl rfl (by kernel_rfl) (by kernel_rfl) (by kernel_rfl) (by kernel_rfl) (fun _ _ _ h => h) (by rfl) HS0 ?_
          try simp only [Act.put, List.setIfInBounds_toArray, List.set_cons_zero, List.set_cons_succ]
          refine wpAnyL_one (j := 11) (by kernel_rfl) rfl (by rfl) (fun K hK => ?_)
          go_simp
          refine hK _ _ (fun _ => HS0) ?_
          clear hK K
          try simp only [Act.put, List.setIfInBounds_toArray, List.set_cons_zero, List.set_cons_succ]
          refine wpAnyL_done (by kernel_rfl) ?_ _
          go_wp2
          have HS0 : Below (effW w e).heap.size wr.drew wr.drew.drew := (Below.refl (effW w e).heap.size wr.drew).drew
          refine wp_region_L (S := fun W => Below (effW w e).heap.size wr.drew W) (f := 8) (by kernel_rfl) ?_
          refine wpAnyL_take (i := 0) (some 36) (v := .slice (some ⟨b, off, none⟩) ps.length cap) rfl rfl (by kernel_rfl) (by kernel_rfl) (by kernel_rfl) (by kernel_rfl) (fun _ _ _ h => h) (by rfl) (fun W hS => ?_) HS0 ?_
          · go_simp
          try simp only [Act.put, List.setIfInBounds_toArray, List.set_cons_zero, List.set_cons_succ]
          refine wpAnyL_take (i := 1) (some 37) (v := .int .i64 (q : Int)) rfl rfl (by kernel_rfl) (by kernel_rfl) (by kernel_rfl) (by kernel_rfl) (fun _ _ _ h => h) (by rfl) (fun W hS => ?_) HS0 ?_
          · go_simp
          try simp only [Act.put, List.setIfInBounds_toArray, List.set_cons_zero, List.set_cons_succ]
          refine wpAnyL_take (i := 2) (some 38) (v := .pointer (some ⟨b, off + q * 6, none⟩)) rfl rfl (by kernel_rfl) (by kernel_rfl) (by kernel_rfl) (by kernel_rfl) (fun _ _ _ h => h) (by rfl) (fun W hS => ?_) HS0 ?_
          · go_simp
          try simp only [Act.put, List.setIfInBounds_toArray, List.set_cons_zero, List.set_cons_succ]
          refine wpAnyL_take (i := 3) (some 39) (v := .pointer (some ⟨b, off + q * 6, none⟩)) rfl rfl (by kernel_rfl) (by kernel_rfl) (by kernel_rfl) (by kernel_rfl) (fun _ _ _ h => h) (by rfl) (fun W hS => ?_) HS0 ?_
          · go_simp
          try simp only [Act.put, List.setIfInBounds_toArray, List.set_cons_zero, List.set_cons_succ]
          refine wpAnyL_take (i := 4) (some 40) (v := .string ⟨key.toArray⟩) rfl rfl (by kernel_rfl) (by kernel_rfl) (by kernel_rfl) (by kernel_rfl) (fun _ _ _ h => h) (by rfl) (fun W hS => ?_) HS0 ?_
          · have m0 := (hS.cell (p := ⟨b, off + q * 6, none⟩) hb).trans q0
            go_simp
          try simp only [Act.put, List.setIfInBounds_toArray, List.set_cons_zero, List.set_cons_succ]
          refine wpAnyL_take (i := 5) (some 41) (v := .pointer (some ⟨w.heap.size, 0, none⟩)) rfl rfl (by kernel_rfl) (by kernel_rfl) (by kernel_rfl) (by kernel_rfl) (fun _ _ _ h => h) (by rfl) (fun W hS => ?_) HS0 ?_
          · go_simp
          try simp only [Act.put, List.setIfInBounds_toArray, List.set_cons_zero, List.set_cons_succ]
          refine wpAnyL_take (i := 6) (some 42) (v := .string ⟨ek.toArray⟩) rfl rfl (by kernel_rfl) (by kernel_rfl) (by kernel_rfl) (by kernel_rfl) (fun _ _ _ h => h) (by rfl) (fun W hS => ?_) HS0 ?_
          · have m0 := (hS.cell (p := ⟨w.heap.size, 0, none⟩) hB).trans c0
            go_simp
          try simp only [Act.put, List.setIfInBounds_toArray, List.set_cons_zero, List.set_cons_succ]
          refine wpAnyL_one (j := 7) (by kernel_rfl) rfl (by rfl) (fun K hK => ?_)
          refine oper_wp_valD (some 43) (v := .bool true) (w' := wr.drew.drew) rfl (by
            go_simp
            exact HKE.out) ?_
          refine hK _ _ (fun _ => HS0) ?_
          clear hK K
          try simp only [Act.put, List.setIfInBounds_toArray, List.set_cons_zero, List.set_cons_succ]
          refine wpAnyL_done (by kernel_rfl) ?_ _
          go_wp2_with (at_builtin; refine wpList_append_own _ rfl (.tmp 44) (.tmp 49) 32 rfl (effW w e).heap.size 72 iP _ 6 96 Tryz.underlying32 hiP hiP0 hiP1 hiP2 rfl (by decide) _ _ _ rfl (HQ2.out.drew.drew.1.alloc _) ⟨wr.heap.size, 0, none⟩ 1 1 [.string ⟨key.toArray⟩, .int .i64 k, .string ⟨s.toArray⟩, .slice aF fs.length cF, .slice aL ws.length cL, .int .i64 x] rfl rfl (row_news _ _ rfl _ _) (Lp.cs_one ⟨key, k, s, aF, fs, cF, aL, ws, cL, x⟩) (by unfold maxLen; omega) (by omega) (by simp; omega) ?_; intro v1 w1 hown hgrow _; have HR1 := Lib.hid (RowP.append (e := ⟨key, k, s, aF, fs, cF, aL, ws, cL, x⟩) HQ2.out.drew.drew hown hgrow HOK.out); have hzw1 := HR1.out.2.1.size; clear hown hgrow)
          go_roundw
          case rel => exact ⟨q + 1, by omega, by go_num, by rw [HNX.out, HT.out], Lib.hid (by rw [HNX.out, HT.out]; exact HR1.out)⟩
          case measure => simp [intOf]; omega
    · obtain rfl : q = ps.length := by omega
      obtain ⟨st, hst⟩ : ∃ st, foldL e (ps.take ps.length) = st := ⟨_, rfl⟩
      rw [hst] at HS HQ hfl2 ⊢
      obtain ⟨out, bb⟩ := st
      clear hst
      have hlo : out.length ≤ 2000000 := by have : out.length + (if bb = true then 0 else 1) ≤ (ps.take ps.length).length + 1 := hfl2; omega
      have HQ2 : Hid (RowP (effW w e) u5 out wr) := Lib.hid HQ.out
      clear HQ hfl2 hfl3
      have k1 : ¬ (ps.length : Int) < (ps.length : Int) := by omega
      have hbx := HBR.out
      obtain ⟨ek, eg, eK, eS, eaF, efs, ecF, eaL, ews, ecL, eX⟩ := e
      obtain ⟨c0, c1, c2, c3, c4, c5, c6⟩ := hbx
      simp only [Nat.zero_add] at c0 c1 c2 c3 c4 c5 c6
      show Code.wp _ _ _ _ _
      cases bb
      · skip
        go_wp2_with (at_builtin; refine wpList_append_own _ rfl (.tmp 53) (.tmp 59) 32 rfl (effW w ⟨ek, eg, eK, eS, eaF, efs, ecF, eaL, ews, ecL, eX⟩).heap.size 72 iP _ 6 96 Tryz.underlying32 hiP hiP0 hiP1 hiP2 rfl (by decide) _ _ _ rfl (HQ2.out.1.alloc _) ⟨wr.heap.size, 0, none⟩ 1 1 [.string ⟨ek.toArray⟩, .int .i64 eK, .string ⟨eS.toArray⟩, .slice eaF efs.length ecF, .slice eaL ews.length ecL, .int .i64 eX] rfl rfl (row_news _ _ rfl _ _) (Lp.cs_one ⟨ek, eK, eS, eaF, efs, ecF, eaL, ews, ecL, eX⟩) (by unfold maxLen; omega) (by omega) (by simp; omega) ?_; intro v1 w1 hown hgrow _; have HR1 := Lib.hid (RowP.append (e := ⟨ek, eK, eS, eaF, efs, ecF, eaL, ews, ecL, eX⟩) HQ2.out hown hgrow HEO.out); have hzw1 := HR1.out.2.1.size; clear hown hgrow)
        go_ret
        exact ⟨_, rfl, HFIN.out _ _ (by rw [HS.out]; exact HR1.out)⟩
      · go_wp2
        go_ret
        exact ⟨_, rfl, HFIN.out _ _ (by rw [HS.out]; exact HQ2.out)⟩
end Go.Proofs.YtokcbcjonbjkgaaGreatDoor
namespace Go.Proofs.YtokcbcjonbjkgaaGreatDoor
open Go.RowKit Go.Shelf
attribute [local go_sem] Oper.semAt_some
set_option linter.unusedVariables false
set_option linter.unusedSimpArgs false

theorem lp_six (ps : List Lp) : ∀ c ∈ ps.map Lp.cs, c.length = 6 := fun c hc => by obtain ⟨p, -, rfl⟩ := List.mem_map.1 hc; rfl
theorem Addr.add_flat (b o j : Nat) : (Addr.add ⟨b, o, none⟩ j) = ⟨b, o + j, none⟩ := by
  unfold Addr.add
  split <;> first | omega | rfl | simp
theorem prs_news {w : World} {ad : Addr} {cap : Nat} {ps : List Lp} (h : Prs w (some ad) cap ps) : ∀ j u, ((ps.map Lp.cs).flatten)[j]? = some u → w.cell? (ad.add j) = some u := by
  intro j u hj
  by_cases h0 : ps.length = 0
  · rw [List.length_eq_zero_iff.1 h0] at hj; simp at hj
  · obtain ⟨b, off, he, hlt, hc⟩ := h.1.get (by simpa using Nat.pos_of_ne_zero h0)
    cases he
    have hlen := flat_len (lp_six ps)
    rw [List.length_map] at hlen
    have hj2 : j < ps.length * 6 := by
      have := (List.getElem?_eq_some_iff.1 hj).1
      omega
    have e : j / 6 * 6 + j % 6 = j := by omega
    have h1 := hc (j / 6) (by rw [List.length_map]; omega) (j % 6) (by omega)
    have h2 := flat_at (lp_six ps) (j / 6) (by rw [List.length_map]; omega) (j % 6) (by omega)
    rw [e] at h2
    rw [Addr.add_flat, ← hj, h2, ← h1, Nat.add_assoc, e]
theorem RowP.empty {w W : World} (hb : Below w.heap.size w W) : RowP w (.slice (some ⟨W.heap.size, 0, Option.none⟩) 0 0) [] (W.alloc (.cells #[] 72)) :=
  ⟨⟨rfl, .inr ⟨W.heap.size, 0, #[], rfl, hb.size, World.alloc_heap_new W _, Nat.le_refl _, by decide, rfl, rfl⟩⟩, hb.alloc hb.size _, by simp⟩
theorem RowP.many {w W w1 : World} {v' : Value} {ps : List Lp} {v : Value} {n : Nat} (h : RowP w v [] W) (h1 : w1.ownsRow w.heap.size 72 6 v' n ((([] : List Lp).map Lp.cs).flatten ++ (ps.map Lp.cs).flatten)) (hn : n = ps.length) (hg : W.grownBy w1 v.ownBlock) (hp : ∀ p ∈ ps, p.Ok w) : RowP w v' ps w1 := by
  subst hn
  exact ⟨by simpa using h1, h.2.1.trans ((Keeps.of_grown (S := fun k => some k ≠ v.ownBlock) hg fun r e h => h e.symm).below h.2.1.size fun k hk e => by have := (h.1.lt k e.symm).1; omega), hp⟩
theorem flat_one (ps : List Lp) : ∀ u ∈ (ps.map Lp.cs).flatten, u.oneCell' = true := fun u hu => by
  obtain ⟨c, hc, hu⟩ := List.mem_flatten.1 hu
  obtain ⟨p, -, rfl⟩ := List.mem_map.1 hc
  exact Lp.cs_one p u hu

/-- many effects. -/
def appL (ps : List Lp) (es : List Le) : List Lp := es.foldl app1L ps
theorem appL_snoc (ps : List Lp) (es : List Le) (e : Le) : appL ps (es ++ [e]) = app1L (appL ps es) e := by simp [appL, List.foldl_append]
theorem appL_len (ps : List Lp) : ∀ es : List Le, (appL ps es).length ≤ ps.length + es.length := by
  have h : ∀ n, ∀ es : List Le, es.length = n → (appL ps es).length ≤ ps.length + n := by
    intro n
    induction n with
    | zero => intro es he; rw [List.length_eq_zero_iff.1 he]; simp [appL]
    | succ n ih =>
      intro es he
      obtain ⟨l', x, rfl⟩ : ∃ l' x, es = l' ++ [x] := ⟨es.dropLast, es.getLast (by intro h; rw [h] at he; simp at he), (List.dropLast_concat_getLast _).symm⟩
      have := ih l' (by simpa using he)
      rw [appL_snoc]
      have := app1L_len (appL ps l') x
      omega
  exact fun es => h _ es rfl
theorem appL_ok {w : World} {ps : List Lp} (hp : ∀ p ∈ ps, p.Ok w) : ∀ es : List Le, (∀ e ∈ es, e.Ok w) → ∀ p ∈ appL ps es, p.Ok w := by
  have h : ∀ n, ∀ es : List Le, es.length = n → (∀ e ∈ es, e.Ok w) → ∀ p ∈ appL ps es, p.Ok w := by
    intro n
    induction n with
    | zero => intro es he; rw [List.length_eq_zero_iff.1 he]; intro _; exact hp
    | succ n ih =>
      intro es he
      obtain ⟨l', x, rfl⟩ : ∃ l' x, es = l' ++ [x] := ⟨es.dropLast, es.getLast (by intro h; rw [h] at he; simp at he), (List.dropLast_concat_getLast _).symm⟩
      intro hx p hpm
      rw [appL_snoc] at hpm
      rcases app1L_mem _ _ p hpm with h | h
      · exact ih l' (by simpa using he) (fun e he => hx e (List.mem_append_left _ he)) p h
      · rw [h]
        exact hx x (by simp)
  exact fun es => h _ es rfl

set_option maxRecDepth 100000 in
set_option maxHeartbeats 8000000 in
theorem applyAll_any (a : Option Addr) (cap : Nat) (ps : List Lp) (b : Option Addr) (cb : Nat) (es : List Le) (w : World) (hP : Prs w a cap ps) (hE : Efs w b cb es) (hn : ps.length ≤ 100000) (hm : es.length ≤ 100000) (ha : a = none → cap = 0) :
    Calls Tryz.prog 11 #[.slice a ps.length cap, .slice b es.length cb] w fun r W => ∃ u, r = .returned u ∧ RowP w u (appL ps es) W := by
  obtain ⟨iP, hiP, hiP0, hiP1, hiP2⟩ := info_parts infoP
  have HE := Lib.hid hE
  have HAL := Lib.hid (fun q => appL_len ps (es.take q))
  have HOK := Lib.hid (fun q => appL_ok hP.2 (es.take q) (fun e he => hE.2 e (List.mem_of_mem_take he)))
  have HAP := Lib.hid (fun (a : Option Addr) (cap : Nat) (qs : List Lp) (e : Le) (W : World) (h1 : Prs W a cap qs) (h2 : e.Ok W) (h3 : qs.length ≤ 1000000) => apply_any a cap qs e W h1 h2 h3)
  have HF := Lib.hid (fun q (h : q < es.length) => (show appL ps (es.take (q + 1)) = app1L (appL ps (es.take q)) (es.getD q Le.zero) by rw [take_succ_getD (d := Le.zero) h, appL_snoc]))
  have HR0 := Lib.hid (RowP.empty (Below.refl w.heap.size w))
  have hPl := hP.len
  have hpc : (ps.length : Int) ≤ (cap : Int) := by omega
  have hcI : (cap : Int) ≤ 9223372036854775807 := by omega
  have hnI : (es.length : Int) ≤ 100000 := by omega
  have hW1 : Below w.heap.size w (w.alloc (.cells #[] 72)) := (Below.refl _ w).alloc (Nat.le_refl _) _
  have HN := Lib.hid (fun ad (h : a = some ad) => prs_news (show Prs (w.alloc (.cells #[] 72)) (some ad) cap ps by rw [← h]; exact hP.later hW1))
  have HPO := Lib.hid hP.2
  clear hP hE hW1
  go_enter Tryz.func11, Tryz.ntmps11
  go_upto_region 1 with (fail)
  go_cut [5] (fun u W => Hid (RowP w u ps W))
  case first =>
    cases a with
    | none =>
      obtain rfl : cap = 0 := ha rfl
      obtain rfl : ps = [] := List.eq_nil_of_length_eq_zero (by omega)
      go_wp2_with (at_builtin; refine wpList_append_own_none rfl (.tmp 7) (.tmp 8) 32 rfl w.heap.size 72 iP 6 Tryz.underlying32 hiP _ _ _ rfl HR0.out.1 rfl ?_)
      go_meet
      case rel => exact HR0
    | some ad =>
      have HN2 := Lib.hid (HN.out ad rfl)
      go_wp2_with (at_builtin; refine wpList_append_own _ rfl (.tmp 7) (.tmp 8) 32 rfl w.heap.size 72 iP _ 6 96 Tryz.underlying32 hiP hiP0 hiP1 hiP2 rfl (by decide) _ _ _ rfl HR0.out.1 ad ps.length cap (ps.map Lp.cs).flatten rfl (by rw [flat_len (lp_six ps), List.length_map]) HN2.out (flat_one ps) (by unfold maxLen; simp; omega) (by simp; omega) (by simp) ?_)
      intro v1 w1 hown hgrow _
      have HR1 := Lib.hid (RowP.many HR0.out hown (by simp) hgrow HPO.out)
      clear hown hgrow
      go_wp2_with fail
      go_meet
      case rel => exact HR1
  case rest =>
    have HRc := hcut
    clear HN HR0 hcut
    go_wp2
    go_loopw [5, 6] (fun u i wr => ∃ q : Nat, q ≤ es.length ∧ i = .int .i64 q ∧ Hid (RowP w u (appL ps (es.take q)) wr)) (fun _ i _ => es.length - (intOf i).toNat)
    case atStart => exact ⟨0, Nat.zero_le _, rfl, HRc⟩
    case round =>
      obtain ⟨q, hq, rfl, HR⟩ := hrel
      have hol := HAL.out q
      have hql := List.length_take_le q es
      by_cases hlt : q < es.length
      · have hE1 := HE.out.later HR.out.2.1
        obtain ⟨b', off, rfl, hb, hc⟩ := hE1.get (by omega)
        obtain ⟨q0, q1, q2, q3, q4, q5, q6⟩ := hc q hlt
        obtain ⟨a', cap', rfl, hP', hn'⟩ := HR.out.prs
        have HC := Lib.hid (HAP.out a' cap' _ (es.getD q Le.zero) wr hP' (hE1.at hlt) (by omega))
        have HX := Lib.hid (fun u W (h : RowP wr u (app1L (appL ps (es.take q)) (es.getD q Le.zero)) W) => show RowP w u (appL ps (es.take (q + 1))) W by
          have h1 := HF.out q hlt
          rw [h1]
          exact h.base HR.out.2.1 (by rw [← h1]; exact HOK.out (q + 1)))
        clear hc hE1 hP'
        unfold effV at HC
        obtain ⟨⟨ek, eg, eK, eS, eaF, efs, ecF, eaL, ews, ecL, eX⟩, hqq⟩ : ∃ e', es.getD q Le.zero = e' := ⟨_, rfl⟩
        rw [hqq] at q0 q1 q2 q3 q4 q5 q6 HC HX
        clear hqq
        simp only [] at q0 q1 q2 q3 q4 q5 q6
        have k0 : (0 : Int) ≤ (q : Int) := by omega
        have k1 : (q : Int) < (es.length : Int) := by omega
        go_wp2_with fail
        refine HC.out.mono ?_
        rintro r w1 ⟨u1, rfl, hrow⟩
        have HR1 := Lib.hid (HX.out _ _ hrow)
        clear hrow q0 q1 q2 q3 q4 q5 q6
        go_wp2
        go_roundw
        case rel => exact ⟨q + 1, by omega, by go_num, HR1⟩
        case measure => simp [intOf]; omega
      · obtain rfl : q = es.length := by omega
        rw [List.take_length] at HR
        have k1 : ¬ (es.length : Int) < (es.length : Int) := by omega
        go_wp2
        go_ret
        exact ⟨_, rfl, HR.out⟩
end Go.Proofs.YtokcbcjonbjkgaaGreatDoor
namespace Go.Proofs.YtokcbcjonbjkgaaGreatDoor
open Go.RowKit Go.Shelf
attribute [local go_sem] Oper.semAt_some
set_option linter.unusedVariables false
set_option linter.unusedSimpArgs false

theorem all_upto {fB : Nat → Bool} {n : Nat} (h : ∀ j, j < n → fB j = true) (hn : fB n = true) : ∀ j, j < n + 1 → fB j = true := fun j hj => by
  rcases Nat.lt_or_ge j n with h' | h'
  · exact h j h'
  · rw [show j = n by omega]; exact hn

theorem all_falseS {n m : Nat} {p : Nat → Bool} (h : m < n) (hp : p m = false) : (List.range n).all p = false := by
  rw [List.all_eq_false]
  exact ⟨m, List.mem_range.2 h, by rw [hp]; decide⟩
set_option maxRecDepth 100000 in
set_option maxHeartbeats 8000000 in
theorem sameSpace_any (a : Option Addr) (c : Nat) (ps : List Lp) (b : Option Addr) (d : Nat) (qs : List Lp) (w : World) (hP : Prs w a c ps) (hQ : Prs w b d qs) (hn : ps.length ≤ 1000000) (hm : qs.length ≤ 1000000) :
    Calls Tryz.prog 16 #[.slice a ps.length c, .slice b qs.length d] w fun r W => r = .returned (.bool (Db.sameS (ps.map Lp.p) (qs.map Lp.p))) ∧ Below w.heap.size w W := by
  have HP := Lib.hid hP
  have HP2 := Lib.hid hQ
  have HR := Lib.hid (show Db.sameS (ps.map Lp.p) (qs.map Lp.p) = (decide (ps.length = qs.length) && (List.range ps.length).all (Db.sameAt (ps.map Lp.p) (qs.map Lp.p))) by unfold Db.sameS; rw [List.length_map, List.length_map])
  have HG := Lib.hid (fun i (h1 : i < ps.length) (h2 : i < qs.length) => show Db.sameAt (ps.map Lp.p) (qs.map Lp.p) i = (decide ((ps.getD i Lp.zero).key = (qs.getD i Lp.zero).key) && It.sameB (ps.getD i Lp.zero).it.i (qs.getD i Lp.zero).it.i) by
    unfold Db.sameAt; rw [map_getD Lp.p ps Lp.zero Db.P.zero h1, map_getD Lp.p qs Lp.zero Db.P.zero h2]; rfl)
  generalize Db.sameS (ps.map Lp.p) (qs.map Lp.p) = R at *
  generalize Db.sameAt (ps.map Lp.p) (qs.map Lp.p) = fB at *
  clear hP hQ
  by_cases hln : ps.length = qs.length
  rotate_left
  · have h1 : (ps.length : Int) ≠ (qs.length : Int) := by omega
    have h2 : ((ps.length : Int) != (qs.length : Int)) = true := bne_iff_ne.2 h1
    have hq : R = false := by rw [HR.out, decide_eq_false hln]; rfl
    have h3 := HP.out.len
    have h4 := HP2.out.len
    subst hq
    clear hln
    go_enter Tryz.func16, Tryz.ntmps16
    go_wp2
    go_ret
    exact ⟨rfl, Below.refl _ _⟩
  have h1 : (qs.length : Int) = (ps.length : Int) := by omega
  have HLN := Lib.hid hln
  have HLN2 := Lib.hid hln.symm
  clear hln
  go_enter Tryz.func16, Tryz.ntmps16
  go_wp2
  go_loopw [5] (fun i wr => ∃ n : Nat, n ≤ ps.length ∧ i = .int .i64 n ∧ Hid (∀ j, j < n → fB j = true) ∧ Hid (Below w.heap.size w wr)) (fun i _ => ps.length - (intOf i).toNat)
  case atStart => exact ⟨0, Nat.zero_le _, rfl, Lib.hid fun j h => by omega, Lib.hid (Below.refl _ _)⟩
  case round =>
    obtain ⟨n, hn', rfl, HJ, HK⟩ := hrel
    by_cases hlt : n < ps.length
    · have hlt2 : n < qs.length := by have := HLN.out; omega
      have hP1 := HP.out.later HK.out
      have hP2 := HP2.out.later HK.out
      obtain ⟨b1, o1, rfl, hb1, hc1⟩ := hP1.get (by omega)
      obtain ⟨b2, o2, rfl, hb2, hc2⟩ := hP2.get (by omega)
      have hk1 := hc1 n hlt
      have hk2 := hc2 n hlt2
      have hok1 := hP1.at hlt
      have hok2 := hP2.at hlt2
      have HX := HG.out n hlt hlt2
      clear hc1 hc2 hP1 hP2
      obtain ⟨⟨key1, k1i, s1, aF1, fs1, cF1, aL1, ws1, cL1, x1⟩, hq1⟩ : ∃ q, ps.getD n Lp.zero = q := ⟨_, rfl⟩
      obtain ⟨⟨key2, k2i, s2, aF2, fs2, cF2, aL2, ws2, cL2, x2⟩, hq2⟩ : ∃ q, qs.getD n Lp.zero = q := ⟨_, rfl⟩
      rw [hq1] at hk1 hok1 HX
      rw [hq2] at hk2 hok2 HX
      clear hq1 hq2
      obtain ⟨p0, p1, p2, p3, p4, p5⟩ := hk1
      obtain ⟨q0, q1, q2, q3, q4, q5⟩ := hk2
      have k0 : (0 : Int) ≤ (n : Int) := by omega
      have k1 : (n : Int) < (ps.length : Int) := by omega
      have k2 : (n : Int) < (qs.length : Int) := by omega
      have hM := fun W (f1 : Fds W aF1 cF1 fs1) (f2 : Fds W aF2 cF2 fs2) (l1 : Wds W aL1 cL1 ws1) (l2 : Wds W aL2 cL2 ws2) => refSame_any k1i k2i x1 x2 s1 s2 aF1 aF2 cF1 cF2 fs1 fs2 aL1 aL2 cL1 cL2 ws1 ws2 W f1 f2 l1 l2
      simp only [itv] at hM
      obtain ⟨-, -, hF1, hL1, -⟩ := hok1
      obtain ⟨-, -, hF2, hL2, -⟩ := hok2
      replace HX : fB n = (decide (key1 = key2) && It.sameB ⟨k1i, s1, fs1, ws1, x1⟩ ⟨k2i, s2, fs2, ws2, x2⟩) := HX
      by_cases hke : key1 = key2
      rotate_left
      · have HQ : Hid (fB n = false) := Lib.hid (by rw [HX, decide_eq_false hke]; rfl)
        have HKE := Lib.hid hke
        clear HX hke
        go_wp2
        have HS0 : Below wr.heap.size wr wr.drew := ((Below.refl _ wr).drew)
        refine wp_region_L (S := fun W => Below wr.heap.size wr W) (f := 25) (by kernel_rfl) ?_
        refine wpAnyL_take (i := 0) (some 17) (v := .slice (some ⟨b1, o1, none⟩) ps.length c) rfl rfl (by kernel_rfl) (by kernel_rfl) (by kernel_rfl) (by kernel_rfl) (fun _ _ _ h => h) (by rfl) (fun W hS => ?_) HS0 ?_
        · go_simp
        try simp only [Act.put, List.setIfInBounds_toArray, List.set_cons_zero, List.set_cons_succ]
        refine wpAnyL_take (i := 1) (some 18) (v := .int .i64 (n : Int)) rfl rfl (by kernel_rfl) (by kernel_rfl) (by kernel_rfl) (by kernel_rfl) (fun _ _ _ h => h) (by rfl) (fun W hS => ?_) HS0 ?_
        · go_simp
        try simp only [Act.put, List.setIfInBounds_toArray, List.set_cons_zero, List.set_cons_succ]
        refine wpAnyL_take (i := 2) (some 19) (v := .pointer (some ⟨b1, o1 + n * 6, none⟩)) rfl rfl (by kernel_rfl) (by kernel_rfl) (by kernel_rfl) (by kernel_rfl) (fun _ _ _ h => h) (by rfl) (fun W hS => ?_) HS0 ?_
        · go_simp
        try simp only [Act.put, List.setIfInBounds_toArray, List.set_cons_zero, List.set_cons_succ]
        refine wpAnyL_take (i := 3) (some 20) (v := .pointer (some ⟨b1, o1 + n * 6, none⟩)) rfl rfl (by kernel_rfl) (by kernel_rfl) (by kernel_rfl) (by kernel_rfl) (fun _ _ _ h => h) (by rfl) (fun W hS => ?_) HS0 ?_
        · go_simp
        try simp only [Act.put, List.setIfInBounds_toArray, List.set_cons_zero, List.set_cons_succ]
        refine wpAnyL_take (i := 4) (some 21) (v := .string ⟨key1.toArray⟩) rfl rfl (by kernel_rfl) (by kernel_rfl) (by kernel_rfl) (by kernel_rfl) (fun _ _ _ h => h) (by rfl) (fun W hS => ?_) HS0 ?_
        · have m0 := (hS.cell (p := ⟨b1, o1 + n * 6, none⟩) hb1).trans p0
          go_simp
        try simp only [Act.put, List.setIfInBounds_toArray, List.set_cons_zero, List.set_cons_succ]
        refine wpAnyL_take (i := 5) (some 22) (v := .slice (some ⟨b2, o2, none⟩) qs.length d) rfl rfl (by kernel_rfl) (by kernel_rfl) (by kernel_rfl) (by kernel_rfl) (fun _ _ _ h => h) (by rfl) (fun W hS => ?_) HS0 ?_
        · go_simp
        try simp only [Act.put, List.setIfInBounds_toArray, List.set_cons_zero, List.set_cons_succ]
        refine wpAnyL_take (i := 6) (some 23) (v := .int .i64 (n : Int)) rfl rfl (by kernel_rfl) (by kernel_rfl) (by kernel_rfl) (by kernel_rfl) (fun _ _ _ h => h) (by rfl) (fun W hS => ?_) HS0 ?_
        · go_simp
        try simp only [Act.put, List.setIfInBounds_toArray, List.set_cons_zero, List.set_cons_succ]
        refine wpAnyL_take (i := 7) (some 24) (v := .pointer (some ⟨b2, o2 + n * 6, none⟩)) rfl rfl (by kernel_rfl) (by kernel_rfl) (by kernel_rfl) (by kernel_rfl) (fun _ _ _ h => h) (by rfl) (fun W hS => ?_) HS0 ?_
        · go_simp
        try simp only [Act.put, List.setIfInBounds_toArray, List.set_cons_zero, List.set_cons_succ]
        refine wpAnyL_take (i := 8) (some 25) (v := .pointer (some ⟨b2, o2 + n * 6, none⟩)) rfl rfl (by kernel_rfl) (by kernel_rfl) (by kernel_rfl) (by kernel_rfl) (fun _ _ _ h => h) (by rfl) (fun W hS => ?_) HS0 ?_
        · go_simp
        try simp only [Act.put, List.setIfInBounds_toArray, List.set_cons_zero, List.set_cons_succ]
        refine wpAnyL_take (i := 9) (some 26) (v := .string ⟨key2.toArray⟩) rfl rfl (by kernel_rfl) (by kernel_rfl) (by kernel_rfl) (by kernel_rfl) (fun _ _ _ h => h) (by rfl) (fun W hS => ?_) HS0 ?_
        · have m0 := (hS.cell (p := ⟨b2, o2 + n * 6, none⟩) hb2).trans q0
          go_simp
        try simp only [Act.put, List.setIfInBounds_toArray, List.set_cons_zero, List.set_cons_succ]
        refine wpAnyL_take (i := 10) (some 27) (v := .bool true) rfl rfl (by kernel_rfl) (by kernel_rfl) (by kernel_rfl) (by kernel_rfl) (fun _ _ _ h => h) (by rfl) (fun W hS => ?_) HS0 ?_
        · go_simp
          exact HKE.out
        try simp only [Act.put, List.setIfInBounds_toArray, List.set_cons_zero, List.set_cons_succ]
        refine wpAnyL_take (i := 11) (some 28) (v := .bool true) rfl rfl (by kernel_rfl) (by kernel_rfl) (by kernel_rfl) (by kernel_rfl) (fun _ _ _ h => h) (by rfl) (fun W hS => ?_) HS0 ?_
        · go_simp
        try simp only [Act.put, List.setIfInBounds_toArray, List.set_cons_zero, List.set_cons_succ]
        refine wpAnyL_pass (i := 12) (some 29) rfl rfl (by kernel_rfl) (by kernel_rfl) (by kernel_rfl) (by kernel_rfl) (fun _ _ _ h => h) (by rfl) HS0 ?_
        try simp only [Act.put, List.setIfInBounds_toArray, List.set_cons_zero, List.set_cons_succ]
        refine wpAnyL_pass (i := 13) (some 30) rfl rfl (by kernel_rfl) (by kernel_rfl) (by kernel_rfl) (by kernel_rfl) (fun _ _ _ h => h) (by rfl) HS0 ?_
        try simp only [Act.put, List.setIfInBounds_toArray, List.set_cons_zero, List.set_cons_succ]
        refine wpAnyL_pass (i := 14) (some 31) rfl rfl (by kernel_rfl) (by kernel_rfl) (by kernel_rfl) (by kernel_rfl) (fun _ _ _ h => h) (by rfl) HS0 ?_
        try simp only [Act.put, List.setIfInBounds_toArray, List.set_cons_zero, List.set_cons_succ]
        refine wpAnyL_pass (i := 15) (some 32) rfl rfl (by kernel_rfl) (by kernel_rfl) (by kernel_rfl) (by kernel_rfl) (fun _ _ _ h => h) (by rfl) HS0 ?_
        try simp only [Act.put, List.setIfInBounds_toArray, List.set_cons_zero, List.set_cons_succ]
        refine wpAnyL_pass (i := 16) (some 33) rfl rfl (by kernel_rfl) (by kernel_rfl) (by kernel_rfl) (by kernel_rfl) (fun _ _ _ h => h) (by rfl) HS0 ?_
        try simp only [Act.put, List.setIfInBounds_toArray, List.set_cons_zero, List.set_cons_succ]
        refine wpAnyL_pass (i := 17) (some 34) rfl rfl (by kernel_rfl) (by kernel_rfl) (by kernel_rfl) (by kernel_rfl) (fun _ _ _ h => h) (by rfl) HS0 ?_
        try simp only [Act.put, List.setIfInBounds_toArray, List.set_cons_zero, List.set_cons_succ]
        refine wpAnyL_pass (i := 18) (some 35) rfl rfl (by kernel_rfl) (by kernel_rfl) (by kernel_rfl) (by kernel_rfl) (fun _ _ _ h => h) (by rfl) HS0 ?_
        try simp only [Act.put, List.setIfInBounds_toArray, List.set_cons_zero, List.set_cons_succ]
        refine wpAnyL_pass (i := 19) (some 36) rfl rfl (by kernel_rfl) (by kernel_rfl) (by kernel_rfl) (by kernel_rfl) (fun _ _ _ h => h) (by rfl) HS0 ?_
        try simp only [Act.put, List.setIfInBounds_toArray, List.set_cons_zero, List.set_cons_succ]
        refine wpAnyL_pass (i := 20) (some 37) rfl rfl (by kernel_rfl) (by kernel_rfl) (by kernel_rfl) (by kernel_rfl) (fun _ _ _ h => h) (by rfl) HS0 ?_
        try simp only [Act.put, List.setIfInBounds_toArray, List.set_cons_zero, List.set_cons_succ]
        refine wpAnyL_pass (i := 21) (some 38) rfl rfl (by kernel_rfl) (by kernel_rfl) (by kernel_rfl) (by kernel_rfl) (fun _ _ _ h => h) (by rfl) HS0 ?_
        try simp only [Act.put, List.setIfInBounds_toArray, List.set_cons_zero, List.set_cons_succ]
        refine wpAnyL_pass (i := 22) (some 39) rfl rfl (by kernel_rfl) (by kernel_rfl) (by kernel_rfl) (by kernel_rfl) (fun _ _ _ h => h) (by rfl) HS0 ?_
        try simp only [Act.put, List.setIfInBounds_toArray, List.set_cons_zero, List.set_cons_succ]
        refine wpAnyL_pass (i := 23) (some 40) rfl rfl (by kernel_rfl) (by kernel_rfl) (by kernel_rfl) (by kernel_rfl) (fun _ _ _ h => h) (by rfl) HS0 ?_
        try simp only [Act.put, List.setIfInBounds_toArray, List.set_cons_zero, List.set_cons_succ]
        refine wpAnyL_one (j := 24) (by kernel_rfl) rfl (by rfl) (fun K hK => ?_)
        go_simp
        refine hK _ _ (fun _ => HS0) ?_
        clear hK K
        try simp only [Act.put, List.setIfInBounds_toArray, List.set_cons_zero, List.set_cons_succ]
        refine wpAnyL_done (by kernel_rfl) ?_ _
        go_wp2
        go_ret
        exact ⟨by rw [HR.out, decide_eq_true HLN.out, all_falseS hlt HQ.out]; rfl, HK.out.trans (HS0.mono HK.out.size)⟩
      have HKE := Lib.hid hke
      rw [decide_eq_true hke] at HX
      clear hke
      skip
      cases hsm : It.sameB ⟨k1i, s1, fs1, ws1, x1⟩ ⟨k2i, s2, fs2, ws2, x2⟩ with
      | false =>
        have HQ : Hid (fB n = false) := Lib.hid (by rw [HX, hsm]; simp)
        rw [hsm] at hM
        clear HX hsm
        go_wp2
        have HS0 : Below wr.heap.size wr wr.drew := ((Below.refl _ wr).drew)
        refine wp_region_L (S := fun W => Below wr.heap.size wr W) (f := 25) (by kernel_rfl) ?_
        refine wpAnyL_take (i := 0) (some 17) (v := .slice (some ⟨b1, o1, none⟩) ps.length c) rfl rfl (by kernel_rfl) (by kernel_rfl) (by kernel_rfl) (by kernel_rfl) (fun _ _ _ h => h) (by rfl) (fun W hS => ?_) HS0 ?_
        · go_simp
        try simp only [Act.put, List.setIfInBounds_toArray, List.set_cons_zero, List.set_cons_succ]
        refine wpAnyL_take (i := 1) (some 18) (v := .int .i64 (n : Int)) rfl rfl (by kernel_rfl) (by kernel_rfl) (by kernel_rfl) (by kernel_rfl) (fun _ _ _ h => h) (by rfl) (fun W hS => ?_) HS0 ?_
        · go_simp
        try simp only [Act.put, List.setIfInBounds_toArray, List.set_cons_zero, List.set_cons_succ]
        refine wpAnyL_take (i := 2) (some 19) (v := .pointer (some ⟨b1, o1 + n * 6, none⟩)) rfl rfl (by kernel_rfl) (by kernel_rfl) (by kernel_rfl) (by kernel_rfl) (fun _ _ _ h => h) (by rfl) (fun W hS => ?_) HS0 ?_
        · go_simp
        try simp only [Act.put, List.setIfInBounds_toArray, List.set_cons_zero, List.set_cons_succ]
        refine wpAnyL_take (i := 3) (some 20) (v := .pointer (some ⟨b1, o1 + n * 6, none⟩)) rfl rfl (by kernel_rfl) (by kernel_rfl) (by kernel_rfl) (by kernel_rfl) (fun _ _ _ h => h) (by rfl) (fun W hS => ?_) HS0 ?_
        · go_simp
        try simp only [Act.put, List.setIfInBounds_toArray, List.set_cons_zero, List.set_cons_succ]
        refine wpAnyL_take (i := 4) (some 21) (v := .string ⟨key1.toArray⟩) rfl rfl (by kernel_rfl) (by kernel_rfl) (by kernel_rfl) (by kernel_rfl) (fun _ _ _ h => h) (by rfl) (fun W hS => ?_) HS0 ?_
        · have m0 := (hS.cell (p := ⟨b1, o1 + n * 6, none⟩) hb1).trans p0
          go_simp
        try simp only [Act.put, List.setIfInBounds_toArray, List.set_cons_zero, List.set_cons_succ]
        refine wpAnyL_take (i := 5) (some 22) (v := .slice (some ⟨b2, o2, none⟩) qs.length d) rfl rfl (by kernel_rfl) (by kernel_rfl) (by kernel_rfl) (by kernel_rfl) (fun _ _ _ h => h) (by rfl) (fun W hS => ?_) HS0 ?_
        · go_simp
        try simp only [Act.put, List.setIfInBounds_toArray, List.set_cons_zero, List.set_cons_succ]
        refine wpAnyL_take (i := 6) (some 23) (v := .int .i64 (n : Int)) rfl rfl (by kernel_rfl) (by kernel_rfl) (by kernel_rfl) (by kernel_rfl) (fun _ _ _ h => h) (by rfl) (fun W hS => ?_) HS0 ?_
        · go_simp
        try simp only [Act.put, List.setIfInBounds_toArray, List.set_cons_zero, List.set_cons_succ]
        refine wpAnyL_take (i := 7) (some 24) (v := .pointer (some ⟨b2, o2 + n * 6, none⟩)) rfl rfl (by kernel_rfl) (by kernel_rfl) (by kernel_rfl) (by kernel_rfl) (fun _ _ _ h => h) (by rfl) (fun W hS => ?_) HS0 ?_
        · go_simp
        try simp only [Act.put, List.setIfInBounds_toArray, List.set_cons_zero, List.set_cons_succ]
        refine wpAnyL_take (i := 8) (some 25) (v := .pointer (some ⟨b2, o2 + n * 6, none⟩)) rfl rfl (by kernel_rfl) (by kernel_rfl) (by kernel_rfl) (by kernel_rfl) (fun _ _ _ h => h) (by rfl) (fun W hS => ?_) HS0 ?_
        · go_simp
        try simp only [Act.put, List.setIfInBounds_toArray, List.set_cons_zero, List.set_cons_succ]
        refine wpAnyL_take (i := 9) (some 26) (v := .string ⟨key2.toArray⟩) rfl rfl (by kernel_rfl) (by kernel_rfl) (by kernel_rfl) (by kernel_rfl) (fun _ _ _ h => h) (by rfl) (fun W hS => ?_) HS0 ?_
        · have m0 := (hS.cell (p := ⟨b2, o2 + n * 6, none⟩) hb2).trans q0
          go_simp
        try simp only [Act.put, List.setIfInBounds_toArray, List.set_cons_zero, List.set_cons_succ]
        refine wpAnyL_take (i := 10) (some 27) (v := .bool false) rfl rfl (by kernel_rfl) (by kernel_rfl) (by kernel_rfl) (by kernel_rfl) (fun _ _ _ h => h) (by rfl) (fun W hS => ?_) HS0 ?_
        · go_simp
          exact HKE.out
        try simp only [Act.put, List.setIfInBounds_toArray, List.set_cons_zero, List.set_cons_succ]
        refine wpAnyL_take (i := 11) (some 28) (v := .bool false) rfl rfl (by kernel_rfl) (by kernel_rfl) (by kernel_rfl) (by kernel_rfl) (fun _ _ _ h => h) (by rfl) (fun W hS => ?_) HS0 ?_
        · go_simp
        try simp only [Act.put, List.setIfInBounds_toArray, List.set_cons_zero, List.set_cons_succ]
        refine wpAnyL_take (i := 12) (some 29) (v := .slice (some ⟨b1, o1, none⟩) ps.length c) rfl rfl (by kernel_rfl) (by kernel_rfl) (by kernel_rfl) (by kernel_rfl) (fun _ _ _ h => h) (by rfl) (fun W hS => ?_) HS0 ?_
        · go_simp
        try simp only [Act.put, List.setIfInBounds_toArray, List.set_cons_zero, List.set_cons_succ]
        refine wpAnyL_take (i := 13) (some 30) (v := .int .i64 (n : Int)) rfl rfl (by kernel_rfl) (by kernel_rfl) (by kernel_rfl) (by kernel_rfl) (fun _ _ _ h => h) (by rfl) (fun W hS => ?_) HS0 ?_
        · go_simp
        try simp only [Act.put, List.setIfInBounds_toArray, List.set_cons_zero, List.set_cons_succ]
        refine wpAnyL_take (i := 14) (some 31) (v := .pointer (some ⟨b1, o1 + n * 6, none⟩)) rfl rfl (by kernel_rfl) (by kernel_rfl) (by kernel_rfl) (by kernel_rfl) (fun _ _ _ h => h) (by rfl) (fun W hS => ?_) HS0 ?_
        · go_simp
        try simp only [Act.put, List.setIfInBounds_toArray, List.set_cons_zero, List.set_cons_succ]
        refine wpAnyL_take (i := 15) (some 32) (v := .pointer (some ⟨b1, o1 + n * 6 + 1, none⟩)) rfl rfl (by kernel_rfl) (by kernel_rfl) (by kernel_rfl) (by kernel_rfl) (fun _ _ _ h => h) (by rfl) (fun W hS => ?_) HS0 ?_
        · go_simp
        try simp only [Act.put, List.setIfInBounds_toArray, List.set_cons_zero, List.set_cons_succ]
        refine wpAnyL_take (i := 16) (some 33) (v := .agg #[.int .i64 k1i, .string ⟨s1.toArray⟩, .slice aF1 fs1.length cF1, .slice aL1 ws1.length cL1, .int .i64 x1]) rfl rfl (by kernel_rfl) (by kernel_rfl) (by kernel_rfl) (by kernel_rfl) (fun _ _ _ h => h) (by rfl) (fun W hS => ?_) HS0 ?_
        · have m0 := (hS.cell (p := ⟨b1, o1 + n * 6 + 1, none⟩) hb1).trans p1
          have m1 := (hS.cell (p := ⟨b1, o1 + n * 6 + 1 + 1, none⟩) hb1).trans p2
          have m2 := (hS.cell (p := ⟨b1, o1 + n * 6 + 1 + 2, none⟩) hb1).trans p3
          have m3 := (hS.cell (p := ⟨b1, o1 + n * 6 + 1 + 3, none⟩) hb1).trans p4
          have m4 := (hS.cell (p := ⟨b1, o1 + n * 6 + 1 + 4, none⟩) hb1).trans p5
          go_simp
        try simp only [Act.put, List.setIfInBounds_toArray, List.set_cons_zero, List.set_cons_succ]
        refine wpAnyL_take (i := 17) (some 34) (v := .slice (some ⟨b2, o2, none⟩) qs.length d) rfl rfl (by kernel_rfl) (by kernel_rfl) (by kernel_rfl) (by kernel_rfl) (fun _ _ _ h => h) (by rfl) (fun W hS => ?_) HS0 ?_
        · go_simp
        try simp only [Act.put, List.setIfInBounds_toArray, List.set_cons_zero, List.set_cons_succ]
        refine wpAnyL_take (i := 18) (some 35) (v := .int .i64 (n : Int)) rfl rfl (by kernel_rfl) (by kernel_rfl) (by kernel_rfl) (by kernel_rfl) (fun _ _ _ h => h) (by rfl) (fun W hS => ?_) HS0 ?_
        · go_simp
        try simp only [Act.put, List.setIfInBounds_toArray, List.set_cons_zero, List.set_cons_succ]
        refine wpAnyL_take (i := 19) (some 36) (v := .pointer (some ⟨b2, o2 + n * 6, none⟩)) rfl rfl (by kernel_rfl) (by kernel_rfl) (by kernel_rfl) (by kernel_rfl) (fun _ _ _ h => h) (by rfl) (fun W hS => ?_) HS0 ?_
        · go_simp
        try simp only [Act.put, List.setIfInBounds_toArray, List.set_cons_zero, List.set_cons_succ]
        refine wpAnyL_take (i := 20) (some 37) (v := .pointer (some ⟨b2, o2 + n * 6 + 1, none⟩)) rfl rfl (by kernel_rfl) (by kernel_rfl) (by kernel_rfl) (by kernel_rfl) (fun _ _ _ h => h) (by rfl) (fun W hS => ?_) HS0 ?_
        · go_simp
        try simp only [Act.put, List.setIfInBounds_toArray, List.set_cons_zero, List.set_cons_succ]
        refine wpAnyL_take (i := 21) (some 38) (v := .agg #[.int .i64 k2i, .string ⟨s2.toArray⟩, .slice aF2 fs2.length cF2, .slice aL2 ws2.length cL2, .int .i64 x2]) rfl rfl (by kernel_rfl) (by kernel_rfl) (by kernel_rfl) (by kernel_rfl) (fun _ _ _ h => h) (by rfl) (fun W hS => ?_) HS0 ?_
        · have m0 := (hS.cell (p := ⟨b2, o2 + n * 6 + 1, none⟩) hb2).trans q1
          have m1 := (hS.cell (p := ⟨b2, o2 + n * 6 + 1 + 1, none⟩) hb2).trans q2
          have m2 := (hS.cell (p := ⟨b2, o2 + n * 6 + 1 + 2, none⟩) hb2).trans q3
          have m3 := (hS.cell (p := ⟨b2, o2 + n * 6 + 1 + 3, none⟩) hb2).trans q4
          have m4 := (hS.cell (p := ⟨b2, o2 + n * 6 + 1 + 4, none⟩) hb2).trans q5
          go_simp
        try simp only [Act.put, List.setIfInBounds_toArray, List.set_cons_zero, List.set_cons_succ]
        refine wpAnyL_one (j := 22) (by kernel_rfl) rfl (by rfl) (fun K hK => ?_)
        go_simp
        refine (hM _ (hF1.later HS0) (hF2.later HS0) (hL1.later HS0) (hL2.later HS0)).mono ?_
        rintro e wc1 ⟨rfl, hb⟩
        have HS1 := HS0.trans (hb.mono HS0.size)
        clear hb
        refine hK _ _ (fun _ => HS1) ?_
        clear hK K
        try simp only [Act.put, List.setIfInBounds_toArray, List.set_cons_zero, List.set_cons_succ]
        refine wpAnyL_take (i := 23) (some 40) (v := .bool true) rfl rfl (by kernel_rfl) (by kernel_rfl) (by kernel_rfl) (by kernel_rfl) (fun _ _ _ h => h) (by rfl) (fun W hS => ?_) HS1 ?_
        · go_simp
        try simp only [Act.put, List.setIfInBounds_toArray, List.set_cons_zero, List.set_cons_succ]
        refine wpAnyL_one (j := 24) (by kernel_rfl) rfl (by rfl) (fun K hK => ?_)
        go_simp
        refine hK _ _ (fun _ => HS1) ?_
        clear hK K
        try simp only [Act.put, List.setIfInBounds_toArray, List.set_cons_zero, List.set_cons_succ]
        refine wpAnyL_done (by kernel_rfl) ?_ _
        go_wp2
        go_ret
        exact ⟨by rw [HR.out, decide_eq_true HLN.out, all_falseS hlt HQ.out]; rfl, HK.out.trans (HS1.mono HK.out.size)⟩
      | true =>
        have HQ : Hid (fB n = true) := Lib.hid (by rw [HX, hsm]; rfl)
        rw [hsm] at hM
        clear HX hsm
        go_wp2
        have HS0 : Below wr.heap.size wr wr.drew := ((Below.refl _ wr).drew)
        refine wp_region_L (S := fun W => Below wr.heap.size wr W) (f := 25) (by kernel_rfl) ?_
        refine wpAnyL_take (i := 0) (some 17) (v := .slice (some ⟨b1, o1, none⟩) ps.length c) rfl rfl (by kernel_rfl) (by kernel_rfl) (by kernel_rfl) (by kernel_rfl) (fun _ _ _ h => h) (by rfl) (fun W hS => ?_) HS0 ?_
        · go_simp
        try simp only [Act.put, List.setIfInBounds_toArray, List.set_cons_zero, List.set_cons_succ]
        refine wpAnyL_take (i := 1) (some 18) (v := .int .i64 (n : Int)) rfl rfl (by kernel_rfl) (by kernel_rfl) (by kernel_rfl) (by kernel_rfl) (fun _ _ _ h => h) (by rfl) (fun W hS => ?_) HS0 ?_
        · go_simp
        try simp only [Act.put, List.setIfInBounds_toArray, List.set_cons_zero, List.set_cons_succ]
        refine wpAnyL_take (i := 2) (some 19) (v := .pointer (some ⟨b1, o1 + n * 6, none⟩)) rfl rfl (by kernel_rfl) (by kernel_rfl) (by kernel_rfl) (by kernel_rfl) (fun _ _ _ h => h) (by rfl) (fun W hS => ?_) HS0 ?_
        · go_simp
        try simp only [Act.put, List.setIfInBounds_toArray, List.set_cons_zero, List.set_cons_succ]
        refine wpAnyL_take (i := 3) (some 20) (v := .pointer (some ⟨b1, o1 + n * 6, none⟩)) rfl rfl (by kernel_rfl) (by kernel_rfl) (by kernel_rfl) (by kernel_rfl) (fun _ _ _ h => h) (by rfl) (fun W hS => ?_) HS0 ?_
        · go_simp
        try simp only [Act.put, List.setIfInBounds_toArray, List.set_cons_zero, List.set_cons_succ]
        refine wpAnyL_take (i := 4) (some 21) (v := .string ⟨key1.toArray⟩) rfl rfl (by kernel_rfl) (by kernel_rfl) (by kernel_rfl) (by kernel_rfl) (fun _ _ _ h => h) (by rfl) (fun W hS => ?_) HS0 ?_
        · have m0 := (hS.cell (p := ⟨b1, o1 + n * 6, none⟩) hb1).trans p0
          go_simp
        try simp only [Act.put, List.setIfInBounds_toArray, List.set_cons_zero, List.set_cons_succ]
        refine wpAnyL_take (i := 5) (some 22) (v := .slice (some ⟨b2, o2, none⟩) qs.length d) rfl rfl (by kernel_rfl) (by kernel_rfl) (by kernel_rfl) (by kernel_rfl) (fun _ _ _ h => h) (by rfl) (fun W hS => ?_) HS0 ?_
        · go_simp
        try simp only [Act.put, List.setIfInBounds_toArray, List.set_cons_zero, List.set_cons_succ]
        refine wpAnyL_take (i := 6) (some 23) (v := .int .i64 (n : Int)) rfl rfl (by kernel_rfl) (by kernel_rfl) (by kernel_rfl) (by kernel_rfl) (fun _ _ _ h => h) (by rfl) (fun W hS => ?_) HS0 ?_
        · go_simp
        try simp only [Act.put, List.setIfInBounds_toArray, List.set_cons_zero, List.set_cons_succ]
        refine wpAnyL_take (i := 7) (some 24) (v := .pointer (some ⟨b2, o2 + n * 6, none⟩)) rfl rfl (by kernel_rfl) (by kernel_rfl) (by kernel_rfl) (by kernel_rfl) (fun _ _ _ h => h) (by rfl) (fun W hS => ?_) HS0 ?_
        · go_simp
        try simp only [Act.put, List.setIfInBounds_toArray, List.set_cons_zero, List.set_cons_succ]
        refine wpAnyL_take (i := 8) (some 25) (v := .pointer (some ⟨b2, o2 + n * 6, none⟩)) rfl rfl (by kernel_rfl) (by kernel_rfl) (by kernel_rfl) (by kernel_rfl) (fun _ _ _ h => h) (by rfl) (fun W hS => ?_) HS0 ?_
        · go_simp
        try simp only [Act.put, List.setIfInBounds_toArray, List.set_cons_zero, List.set_cons_succ]
        refine wpAnyL_take (i := 9) (some 26) (v := .string ⟨key2.toArray⟩) rfl rfl (by kernel_rfl) (by kernel_rfl) (by kernel_rfl) (by kernel_rfl) (fun _ _ _ h => h) (by rfl) (fun W hS => ?_) HS0 ?_
        · have m0 := (hS.cell (p := ⟨b2, o2 + n * 6, none⟩) hb2).trans q0
          go_simp
        try simp only [Act.put, List.setIfInBounds_toArray, List.set_cons_zero, List.set_cons_succ]
        refine wpAnyL_take (i := 10) (some 27) (v := .bool false) rfl rfl (by kernel_rfl) (by kernel_rfl) (by kernel_rfl) (by kernel_rfl) (fun _ _ _ h => h) (by rfl) (fun W hS => ?_) HS0 ?_
        · go_simp
          exact HKE.out
        try simp only [Act.put, List.setIfInBounds_toArray, List.set_cons_zero, List.set_cons_succ]
        refine wpAnyL_take (i := 11) (some 28) (v := .bool false) rfl rfl (by kernel_rfl) (by kernel_rfl) (by kernel_rfl) (by kernel_rfl) (fun _ _ _ h => h) (by rfl) (fun W hS => ?_) HS0 ?_
        · go_simp
        try simp only [Act.put, List.setIfInBounds_toArray, List.set_cons_zero, List.set_cons_succ]
        refine wpAnyL_take (i := 12) (some 29) (v := .slice (some ⟨b1, o1, none⟩) ps.length c) rfl rfl (by kernel_rfl) (by kernel_rfl) (by kernel_rfl) (by kernel_rfl) (fun _ _ _ h => h) (by rfl) (fun W hS => ?_) HS0 ?_
        · go_simp
        try simp only [Act.put, List.setIfInBounds_toArray, List.set_cons_zero, List.set_cons_succ]
        refine wpAnyL_take (i := 13) (some 30) (v := .int .i64 (n : Int)) rfl rfl (by kernel_rfl) (by kernel_rfl) (by kernel_rfl) (by kernel_rfl) (fun _ _ _ h => h) (by rfl) (fun W hS => ?_) HS0 ?_
        · go_simp
        try simp only [Act.put, List.setIfInBounds_toArray, List.set_cons_zero, List.set_cons_succ]
        refine wpAnyL_take (i := 14) (some 31) (v := .pointer (some ⟨b1, o1 + n * 6, none⟩)) rfl rfl (by kernel_rfl) (by kernel_rfl) (by kernel_rfl) (by kernel_rfl) (fun _ _ _ h => h) (by rfl) (fun W hS => ?_) HS0 ?_
        · go_simp
        try simp only [Act.put, List.setIfInBounds_toArray, List.set_cons_zero, List.set_cons_succ]
        refine wpAnyL_take (i := 15) (some 32) (v := .pointer (some ⟨b1, o1 + n * 6 + 1, none⟩)) rfl rfl (by kernel_rfl) (by kernel_rfl) (by kernel_rfl) (by kernel_rfl) (fun _ _ _ h => h) (by rfl) (fun W hS => ?_) HS0 ?_
        · go_simp
        try simp only [Act.put, List.setIfInBounds_toArray, List.set_cons_zero, List.set_cons_succ]
        refine wpAnyL_take (i := 16) (some 33) (v := .agg #[.int .i64 k1i, .string ⟨s1.toArray⟩, .slice aF1 fs1.length cF1, .slice aL1 ws1.length cL1, .int .i64 x1]) rfl rfl (by kernel_rfl) (by kernel_rfl) (by kernel_rfl) (by kernel_rfl) (fun _ _ _ h => h) (by rfl) (fun W hS => ?_) HS0 ?_
        · have m0 := (hS.cell (p := ⟨b1, o1 + n * 6 + 1, none⟩) hb1).trans p1
          have m1 := (hS.cell (p := ⟨b1, o1 + n * 6 + 1 + 1, none⟩) hb1).trans p2
          have m2 := (hS.cell (p := ⟨b1, o1 + n * 6 + 1 + 2, none⟩) hb1).trans p3
          have m3 := (hS.cell (p := ⟨b1, o1 + n * 6 + 1 + 3, none⟩) hb1).trans p4
          have m4 := (hS.cell (p := ⟨b1, o1 + n * 6 + 1 + 4, none⟩) hb1).trans p5
          go_simp
        try simp only [Act.put, List.setIfInBounds_toArray, List.set_cons_zero, List.set_cons_succ]
        refine wpAnyL_take (i := 17) (some 34) (v := .slice (some ⟨b2, o2, none⟩) qs.length d) rfl rfl (by kernel_rfl) (by kernel_rfl) (by kernel_rfl) (by kernel_rfl) (fun _ _ _ h => h) (by rfl) (fun W hS => ?_) HS0 ?_
        · go_simp
        try simp only [Act.put, List.setIfInBounds_toArray, List.set_cons_zero, List.set_cons_succ]
        refine wpAnyL_take (i := 18) (some 35) (v := .int .i64 (n : Int)) rfl rfl (by kernel_rfl) (by kernel_rfl) (by kernel_rfl) (by kernel_rfl) (fun _ _ _ h => h) (by rfl) (fun W hS => ?_) HS0 ?_
        · go_simp
        try simp only [Act.put, List.setIfInBounds_toArray, List.set_cons_zero, List.set_cons_succ]
        refine wpAnyL_take (i := 19) (some 36) (v := .pointer (some ⟨b2, o2 + n * 6, none⟩)) rfl rfl (by kernel_rfl) (by kernel_rfl) (by kernel_rfl) (by kernel_rfl) (fun _ _ _ h => h) (by rfl) (fun W hS => ?_) HS0 ?_
        · go_simp
        try simp only [Act.put, List.setIfInBounds_toArray, List.set_cons_zero, List.set_cons_succ]
        refine wpAnyL_take (i := 20) (some 37) (v := .pointer (some ⟨b2, o2 + n * 6 + 1, none⟩)) rfl rfl (by kernel_rfl) (by kernel_rfl) (by kernel_rfl) (by kernel_rfl) (fun _ _ _ h => h) (by rfl) (fun W hS => ?_) HS0 ?_
        · go_simp
        try simp only [Act.put, List.setIfInBounds_toArray, List.set_cons_zero, List.set_cons_succ]
        refine wpAnyL_take (i := 21) (some 38) (v := .agg #[.int .i64 k2i, .string ⟨s2.toArray⟩, .slice aF2 fs2.length cF2, .slice aL2 ws2.length cL2, .int .i64 x2]) rfl rfl (by kernel_rfl) (by kernel_rfl) (by kernel_rfl) (by kernel_rfl) (fun _ _ _ h => h) (by rfl) (fun W hS => ?_) HS0 ?_
        · have m0 := (hS.cell (p := ⟨b2, o2 + n * 6 + 1, none⟩) hb2).trans q1
          have m1 := (hS.cell (p := ⟨b2, o2 + n * 6 + 1 + 1, none⟩) hb2).trans q2
          have m2 := (hS.cell (p := ⟨b2, o2 + n * 6 + 1 + 2, none⟩) hb2).trans q3
          have m3 := (hS.cell (p := ⟨b2, o2 + n * 6 + 1 + 3, none⟩) hb2).trans q4
          have m4 := (hS.cell (p := ⟨b2, o2 + n * 6 + 1 + 4, none⟩) hb2).trans q5
          go_simp
        try simp only [Act.put, List.setIfInBounds_toArray, List.set_cons_zero, List.set_cons_succ]
        refine wpAnyL_one (j := 22) (by kernel_rfl) rfl (by rfl) (fun K hK => ?_)
        go_simp
        refine (hM _ (hF1.later HS0) (hF2.later HS0) (hL1.later HS0) (hL2.later HS0)).mono ?_
        rintro e wc1 ⟨rfl, hb⟩
        have HS1 := HS0.trans (hb.mono HS0.size)
        clear hb
        refine hK _ _ (fun _ => HS1) ?_
        clear hK K
        try simp only [Act.put, List.setIfInBounds_toArray, List.set_cons_zero, List.set_cons_succ]
        refine wpAnyL_take (i := 23) (some 40) (v := .bool false) rfl rfl (by kernel_rfl) (by kernel_rfl) (by kernel_rfl) (by kernel_rfl) (fun _ _ _ h => h) (by rfl) (fun W hS => ?_) HS1 ?_
        · go_simp
        try simp only [Act.put, List.setIfInBounds_toArray, List.set_cons_zero, List.set_cons_succ]
        refine wpAnyL_one (j := 24) (by kernel_rfl) rfl (by rfl) (fun K hK => ?_)
        go_simp
        refine hK _ _ (fun _ => HS1) ?_
        clear hK K
        try simp only [Act.put, List.setIfInBounds_toArray, List.set_cons_zero, List.set_cons_succ]
        refine wpAnyL_done (by kernel_rfl) ?_ _
        go_wp2
        go_roundw
        case rel => exact ⟨n + 1, by omega, by go_num, Lib.hid (all_upto HJ.out HQ.out), Lib.hid (HK.out.trans (HS1.mono HK.out.size))⟩
        case measure => simp [intOf]; omega
    · obtain rfl : n = ps.length := by omega
      have HQ := Lib.hid (show (List.range ps.length).all fB = true by rw [List.all_eq_true]; intro j hj; exact HJ.out j (List.mem_range.1 hj))
      have k1 : ¬ (ps.length : Int) < (ps.length : Int) := by omega
      go_wp2
      go_ret
      exact ⟨by rw [HR.out, HQ.out, decide_eq_true HLN.out]; rfl, HK.out⟩
end Go.Proofs.YtokcbcjonbjkgaaGreatDoor
namespace Go.Proofs.YtokcbcjonbjkgaaGreatDoor
open Go.RowKit Go.Shelf
set_option linter.unusedVariables false
set_option linter.unusedSimpArgs false

/-- a literal slice of fields. -/
theorem fds_new (w : World) (fs : List (List UInt8 × List UInt8)) (hl : fs.length ≤ 1000) (hs : ∀ p ∈ fs, p.1.length ≤ 9223372036854775807 ∧ p.2.length ≤ 9223372036854775807) : Fds (w.alloc (.cells (fcells fs).toArray 69)) (some ⟨w.heap.size, 0, none⟩) fs.length fs := by
  refine ⟨Nat.le_refl _, by omega, hs, .inr ⟨w.heap.size, 0, rfl, by simp, fun k hk => ?_⟩⟩
  obtain ⟨e1, e2⟩ := fcells_at fs k hk
  rw [Nat.zero_add, cell_of_row _ _ _ _ 69 (0, 0) (World.alloc_heap_new w _), cell_of_row _ _ _ _ 69 (0, 0) (World.alloc_heap_new w _)]
  exact ⟨by simpa using e1, by simpa using e2⟩
end Go.Proofs.YtokcbcjonbjkgaaGreatDoor
namespace Go.Proofs.YtokcbcjonbjkgaaGreatDoor
open Go.RowKit Go.Shelf
attribute [local go_sem] Oper.semAt_some
set_option linter.unusedVariables false
set_option linter.unusedSimpArgs false

/-- the items that made makes. -/
def Ec.mades : List It.I := [⟨1, [116], [], [], 0⟩, ⟨2, [], [([97], [49])], [], 0⟩, ⟨3, [], [], [[98], [97]], 0⟩, ⟨4, [], [], [[97], [98]], 0⟩]
def MadeOut (w : World) (e : Ending) (W : World) : Prop := ∃ li : Li, e = .returned li.v ∧ li.Ok W ∧ li.i ∈ Ec.mades ∧ Below w.heap.size w W

def madeW (w : World) (o : Obj) : World := ((((w.alloc o).alloc (.cells #[.string ⟨#[97]⟩, .string ⟨#[49]⟩] 69)).alloc (.cells #[.string ⟨#[98]⟩, .string ⟨#[97]⟩] 9)).alloc (.cells #[.string ⟨#[97]⟩, .string ⟨#[98]⟩] 9)).alloc (.cells #[.int .i64 1, .string ⟨#[116]⟩, .slice none 0 0, .slice none 0 0, .int .i64 0, .int .i64 2, .string ⟨#[]⟩, .slice (some ⟨w.heap.size + 1, 0, none⟩) 1 1, .slice none 0 0, .int .i64 0, .int .i64 3, .string ⟨#[]⟩, .slice none 0 0, .slice (some ⟨w.heap.size + 1 + 1, 0, none⟩) 2 2, .int .i64 0, .int .i64 4, .string ⟨#[]⟩, .slice none 0 0, .slice (some ⟨w.heap.size + 1 + 1 + 1, 0, none⟩) 2 2, .int .i64 0] 38)
theorem madeW_below (w : World) (o : Obj) : Below w.heap.size w (madeW w o) := (((((Below.refl _ w).alloc (Nat.le_refl _) _).alloc (by simp) _).alloc (by simp; omega) _).alloc (by simp; omega) _).alloc (by simp; omega) _
theorem made_ret (w : World) (k : Int) (s : List UInt8) (aF : Option Addr) (fs : List (List UInt8 × List UInt8)) (cF : Nat) (aL : Option Addr) (ls : List (List UInt8)) (cL : Nat)
    (hF : Fds (madeW w (itc k s aF fs.length cF aL ls.length cL 0)) aF cF fs) (hL : Wds (madeW w (itc k s aF fs.length cF aL ls.length cL 0)) aL cL ls) (h1 : aF = none → cF = 0) (h2 : aL = none → cL = 0) (hs : s.length ≤ 9223372036854775807) (hm : (⟨k, s, fs, ls, 0⟩ : It.I) ∈ Ec.mades) :
    ItBox (madeW w (itc k s aF fs.length cF aL ls.length cL 0)) w.heap.size k s aF fs.length cF aL ls.length cL 0 ∧ MadeOut w (.returned (itv k s aF fs.length cF aL ls.length cL 0)) (madeW w (itc k s aF fs.length cF aL ls.length cL 0)) := by
  refine ⟨?_, ⟨k, s, aF, fs, cF, aL, ls, cL, 0⟩, rfl, ⟨hs, hF, hL, h1, h2⟩, hm, madeW_below _ _⟩
  have h0 : ItBox (w.alloc (itc k s aF fs.length cF aL ls.length cL 0)) w.heap.size k s aF fs.length cF aL ls.length cL 0 := ItBox.new w k s aF fs.length cF aL ls.length cL 0
  exact ((((h0.later ((Below.refl _ _).alloc (Nat.le_refl _) _)).later ((Below.refl _ _).alloc (Nat.le_refl _) _)).later ((Below.refl _ _).alloc (Nat.le_refl _) _)).later ((Below.refl _ _).alloc (Nat.le_refl _) _))
theorem made_f (w : World) (o : Obj) : Fds (madeW w o) (some ⟨w.heap.size + 1, 0, none⟩) 1 [([97], [49])] := by
  have := fds_new (w.alloc o) [([97], [49])] (by decide) (by decide)
  rw [World.size_alloc] at this
  exact ((this.later ((Below.refl _ _).alloc (Nat.le_refl _) _)).later ((Below.refl _ _).alloc (Nat.le_refl _) _)).later ((Below.refl _ _).alloc (Nat.le_refl _) _)
theorem made_l (w : World) (o : Obj) : Wds (madeW w o) (some ⟨w.heap.size + 1 + 1, 0, none⟩) 2 [[98], [97]] := by
  have := wds_new ((w.alloc o).alloc (.cells #[.string ⟨#[97]⟩, .string ⟨#[49]⟩] 69)) [[98], [97]] (by decide) (by decide)
  rw [World.size_alloc, World.size_alloc] at this
  exact (this.later ((Below.refl _ _).alloc (Nat.le_refl _) _)).later ((Below.refl _ _).alloc (Nat.le_refl _) _)
theorem made_s (w : World) (o : Obj) : Wds (madeW w o) (some ⟨w.heap.size + 1 + 1 + 1, 0, none⟩) 2 [[97], [98]] := by
  have := wds_new (((w.alloc o).alloc (.cells #[.string ⟨#[97]⟩, .string ⟨#[49]⟩] 69)).alloc (.cells #[.string ⟨#[98]⟩, .string ⟨#[97]⟩] 9)) [[97], [98]] (by decide) (by decide)
  rw [World.size_alloc, World.size_alloc, World.size_alloc] at this
  exact this.later ((Below.refl _ _).alloc (Nat.le_refl _) _)

set_option maxRecDepth 100000 in
set_option maxHeartbeats 8000000 in
theorem made_any (a : Option Addr) (cap : Nat) (ns : List UInt8) (w : World) (hB : Bytes w a ns) : Calls Tryz.prog 12 #[.slice a ns.length cap] w (MadeOut w) := by
  by_cases h0 : ns = []
  · subst h0
    simp only [List.length_nil]
    go_enter Tryz.func12, Tryz.ntmps12
    go_wp2
    obtain ⟨e1, e2⟩ := made_ret w 1 [116] none [] 0 none [] 0 (fds_nil _) (wds_nil _) (fun _ => rfl) (fun _ => rfl) (by decide) (by simp [Ec.mades])
    exact bodyPost_ret (results_cell rfl rfl (loadVarI e1)) rfl e2
  · rcases hB with hB | ⟨b, off, rfl, hc⟩
    · exact absurd hB h0
    have hl : 0 < ns.length := by cases ns with | nil => exact absurd rfl h0 | cons x l => simp
    have c0 := hc 0 hl
    rw [Nat.add_zero] at c0
    obtain ⟨x, hx⟩ : ∃ x : Nat, (ns.getD 0 0).toNat = x := ⟨_, rfl⟩
    rw [hx] at c0
    have hx2 : x < 256 := by rw [← hx]; exact UInt8.toNat_lt _
    have c1 := ((Below.refl w.heap.size w).alloc (Nat.le_refl _) (.cells #[.int .i64 0, .string ⟨#[]⟩, .slice none 0 0, .slice none 0 0, .int .i64 0] 38)).cell (p := ⟨b, off, none⟩) (World.block_lt_of_cell? w _ c0) |>.trans c0
    have hlI : (0 : Int) < (ns.length : Int) := by omega
    have hgt : decide ((ns.length : Int) > 0) = true := by simpa using hl
    have hm : Int.tmod (x : Int) 4 = 0 ∨ Int.tmod (x : Int) 4 = 1 ∨ Int.tmod (x : Int) 4 = 2 ∨ Int.tmod (x : Int) 4 = 3 := by
      rw [Int.tmod_eq_emod_of_nonneg (by omega)]; omega
    have hwx : IntKind.i64.wrap (x : Int) = (x : Int) := IntWalk.i64_in _ (by omega)
    clear hc hx hx2
    go_enter Tryz.func12, Tryz.ntmps12
    rcases hm with hm | hm | hm | hm
    · go_wp2
      obtain ⟨e1, e2⟩ := made_ret w 1 [116] none [] 0 none [] 0 (fds_nil _) (wds_nil _) (fun _ => rfl) (fun _ => rfl) (by decide) (by simp [Ec.mades])
      exact bodyPost_ret (results_cell rfl rfl (loadVarI e1)) rfl e2
    · go_wp2
      obtain ⟨e1, e2⟩ := made_ret w 2 [] (some ⟨w.heap.size + 1, 0, none⟩) [([97], [49])] 1 none [] 0 (made_f w _) (wds_nil _) (fun h => by cases h) (fun _ => rfl) (by decide) (by simp [Ec.mades])
      exact bodyPost_ret (results_cell rfl rfl (loadVarI e1)) rfl e2
    · go_wp2
      obtain ⟨e1, e2⟩ := made_ret w 3 [] none [] 0 (some ⟨w.heap.size + 1 + 1, 0, none⟩) [[98], [97]] 2 (fds_nil _) (made_l w _) (fun _ => rfl) (fun h => by cases h) (by decide) (by simp [Ec.mades])
      exact bodyPost_ret (results_cell rfl rfl (loadVarI e1)) rfl e2
    · go_wp2
      obtain ⟨e1, e2⟩ := made_ret w 4 [] none [] 0 (some ⟨w.heap.size + 1 + 1 + 1, 0, none⟩) [[97], [98]] 2 (fds_nil _) (made_s w _) (fun _ => rfl) (fun h => by cases h) (by decide) (by simp [Ec.mades])
      exact bodyPost_ret (results_cell rfl rfl (loadVarI e1)) rfl e2
end Go.Proofs.YtokcbcjonbjkgaaGreatDoor
namespace Go.Proofs.YtokcbcjonbjkgaaGreatDoor
set_option linter.unusedVariables false
set_option linter.unusedSimpArgs false

namespace Ec
def REN : List UInt8 := [82, 69, 78, 65, 77, 69]
def TTLw : List UInt8 := [84, 84, 76]
def oldI : It.I := ⟨1, [111, 108, 100], [], [], 0⟩
/-- what is used of the item. -/
structure RI (i : It.I) : Prop where
  none : noneB i = false
  may : It.mayB i = true
  sz : It.sameB i z0 = false
  zs : It.sameB z0 i = false
  os : It.sameB oldI i = false
  self : It.sameB i i = true
  al : It.aliveB i 0 = true
  ex : i.exp = 9
theorem ri_of {i : It.I} (h : i ∈ mades) : RI { i with exp := 9 } := by
  simp only [mades, List.mem_cons, List.not_mem_nil, or_false] at h
  rcases h with rfl | rfl | rfl | rfl <;> exact ⟨by decide, by decide +kernel, by decide, by decide, by decide, by decide, by decide, rfl⟩
theorem fits_any (ks : List Bs) (f : M) : fits 0 ks f = true := by
  unfold fits
  rw [List.all_eq_true]
  intro k _
  split <;> simp
theorem ren_keys (a b : Bs) (ha : a.length ≤ 40) (hb : b.length ≤ 40) : Cm.keysOf [REN, a, b] = [a, b] :=
  (ck32 REN a b ⟨REN, 3, 3, 1, 2, 1, true⟩ (by decide +kernel) (by decide) ⟨rfl, rfl, rfl⟩ ha hb).2
theorem ttl_keys (b : Bs) (hb : b.length ≤ 40) : Cm.keysOf [TTLw, b] = [b] :=
  (ck2 TTLw b ⟨TTLw, 2, 2, 1, 1, 1, false⟩ (by decide +kernel) (by decide) ⟨rfl, rfl, rfl⟩ hb).2
theorem ren_eq {i : It.I} (H : RI i) (db : List Db.P) (a : Bs) (ha : a.length ≤ 40) (hr : Db.raw db a = some i) : exec 0 [] dRename db [REN, a, a] 0 = (done, []) := by
  have hks : once [] [a, a] = [a] := by simp [once]
  have hf : live 0 (before db [a]) a = some i := by simp [live, before, hr, H.al]
  have hb : before db [a] a = some i := by simp [before, hr]
  unfold exec follow
  rw [ren_keys a a ha ha, hks]
  dsimp only
  simp only [fits_any, if_true]
  simp [readN, dRename, rename, hf, give, H.none, H.may, effects, hb, upd, H.self, done, simple, Rp.R.k]
theorem ren_ne {i : It.I} (H : RI i) (db : List Db.P) (a b : Bs) (hab : a ≠ b) (ha : a.length ≤ 40) (hb : b.length ≤ 40) (hr : Db.raw db a = some i) (hn : Db.raw db b = none ∨ Db.raw db b = some oldI) : exec 0 [] dRename db [REN, a, b] 0 = (done, [⟨a, true, z0⟩, ⟨b, false, i⟩]) := by
  have hba : ¬ b = a := fun e => hab e.symm
  have hks : once [] [a, b] = [a, b] := by simp [once, hba]
  have hf : live 0 (before db [a, b]) a = some i := by simp [live, before, hr, H.al]
  have h1 : before db [a, b] a = some i := by simp [before, hr]
  have h2 : before db [a, b] b = Db.raw db b := by simp [before]
  have h3 : It.sameB ((Db.raw db b).getD z0) i = false := by
    rcases hn with h | h
    · rw [h]; exact H.zs
    · rw [h]; exact H.os
  unfold exec follow
  rw [ren_keys a b ha hb, hks]
  dsimp only
  simp only [fits_any, if_true]
  simp [readN, dRename, rename, hf, give, H.none, H.may, effects, h1, h2, upd, H.sz, h3, hab, hba, done, simple, Rp.R.k]
theorem ren_no {i : It.I} (a b : Bs) (hab : a ≠ b) (ha : a.length ≤ 40) (hb : b.length ≤ 40) : exec 0 [] dRename [⟨b, i⟩] [REN, a, b] 0 = (errR, []) := by
  have hba : ¬ b = a := fun e => hab e.symm
  have hks : once [] [a, b] = [a, b] := by simp [once, hba]
  have hf : live 0 (before [⟨b, i⟩] [a, b]) a = none := by simp [live, before, Db.raw, hba]
  unfold exec follow
  rw [ren_keys a b ha hb, hks]
  dsimp only
  simp only [fits_any, if_true]
  simp [readN, dRename, rename, hf, errR, Rp.R.k]
theorem ttl_yes {i : It.I} (H : RI i) (b : Bs) (hb : b.length ≤ 40) : exec 0 [] dTtl [⟨b, i⟩] [TTLw, b] 0 = (num 9, []) := by
  have hks : once [] [b] = [b] := by simp [once]
  have hf : live 0 (before [⟨b, i⟩] [b]) b = some i := by simp [live, before, Db.raw, H.al]
  have h1 : before [⟨b, i⟩] [b] b = some i := by simp [before, Db.raw]
  unfold exec follow
  rw [ttl_keys b hb, hks]
  dsimp only
  simp only [fits_any, if_true]
  simp [readN, dTtl, ttl, hf, H.ex, effects, h1, H.self, num, Rp.R.k]
theorem app_one (a : Bs) (i : It.I) : Db.app [] [⟨a, false, i⟩] = [⟨a, i⟩] := rfl
/-- the space with both keys. -/
def two (a b : Bs) (i : It.I) : List Db.P := if a < b then [⟨a, i⟩, ⟨b, oldI⟩] else [⟨b, oldI⟩, ⟨a, i⟩]
theorem app_two (a b : Bs) (i : It.I) (hab : a ≠ b) : Db.app [⟨a, i⟩] [⟨b, false, oldI⟩] = two a b i := by
  unfold two
  by_cases h : a < b <;> simp [Db.app, Db.app1, Db.foldA, Db.stepA, h, hab]
theorem raw_two (a b : Bs) (i : It.I) (hab : a ≠ b) : Db.raw (two a b i) a = some i ∧ Db.raw (two a b i) b = some oldI := by
  have hba : ¬ b = a := fun e => hab e.symm
  unfold two
  by_cases h : a < b <;> simp [Db.raw, h, hab, hba]
theorem app_ren1 (a b : Bs) (i : It.I) (hab : a ≠ b) : Db.app [⟨a, i⟩] [⟨a, true, z0⟩, ⟨b, false, i⟩] = [⟨b, i⟩] := by
  simp [Db.app, Db.app1, Db.foldA, Db.stepA]
theorem app_ren2 (a b : Bs) (i : It.I) (hab : a ≠ b) : Db.app (two a b i) [⟨a, true, z0⟩, ⟨b, false, i⟩] = [⟨b, i⟩] := by
  have hba : ¬ b = a := fun e => hab e.symm
  have hbb : ¬ b < b := List.lt_irrefl b
  unfold two
  by_cases h : a < b <;> simp [Db.app, Db.app1, Db.foldA, Db.stepA, h, hab, hba, hbb]
end Ec
end Go.Proofs.YtokcbcjonbjkgaaGreatDoor
namespace Go.Proofs.YtokcbcjonbjkgaaGreatDoor
set_option linter.unusedVariables false
set_option linter.unusedSimpArgs false

theorem stepL_p (e : Le) (st : List Lp × Bool) (p : Lp) : ((stepL e st p).1.map Lp.p, (stepL e st p).2) = Db.stepA e.e (st.1.map Lp.p, st.2) p.p := by
  unfold stepL Db.stepA
  show _ = (if p.key = e.key then _ else _, _)
  by_cases h1 : (!st.2 && !decide (p.key < e.key)) = true
  · have h2 : (!st.2 && !decide (p.p.key < e.e.key)) = true := h1
    simp only [h1, h2, if_true]
    by_cases h : p.key = e.key <;> simp [h] <;> rfl
  · have h2 : ¬ (!st.2 && !decide (p.p.key < e.e.key)) = true := h1
    simp only [h1, h2, if_false]
    by_cases h : p.key = e.key <;> simp [h]
theorem foldL_p (e : Le) : ∀ (ps : List Lp) (st : List Lp × Bool), ((ps.foldl (stepL e) st).1.map Lp.p, (ps.foldl (stepL e) st).2) = (ps.map Lp.p).foldl (Db.stepA e.e) (st.1.map Lp.p, st.2)
  | [], _ => rfl
  | p :: ps, st => by
    rw [List.foldl_cons, List.map_cons, List.foldl_cons, ← stepL_p, ← foldL_p e ps]
theorem app1L_p (ps : List Lp) (e : Le) : (app1L ps e).map Lp.p = Db.app1 (ps.map Lp.p) e.e := by
  have h := foldL_p e ps ([], e.gone)
  have h1 := congrArg Prod.fst h
  have h2 := congrArg Prod.snd h
  unfold app1L Db.app1 foldL Db.foldA
  simp only [List.map_nil] at h1 h2
  show _ = if _ = true then _ else _
  rw [show e.e.gone = e.gone from rfl, ← h1, ← h2]
  split
  · rfl
  · rw [List.map_append]; rfl
theorem appL_p (ps : List Lp) (es : List Le) : (appL ps es).map Lp.p = Db.app (ps.map Lp.p) (es.map Le.e) := by
  unfold appL Db.app
  induction es generalizing ps with
  | nil => rfl
  | cons e es ih => rw [List.foldl_cons, List.map_cons, List.foldl_cons, ih, app1L_p]
end Go.Proofs.YtokcbcjonbjkgaaGreatDoor
namespace Go.Proofs.YtokcbcjonbjkgaaGreatDoor
open Go.RowKit Go.Shelf
attribute [local go_sem] Oper.semAt_some
set_option linter.unusedVariables false
set_option linter.unusedSimpArgs false

/-- what do tells. -/
def DoS (r : Rp.R) (qs : List Db.P) (w : World) (e : Ending) (W : World) : Prop :=
  ∃ v a cap ps, e = .returned (.tuple #[v, .slice a ps.length cap]) ∧ Rep (fun b => w.heap.size ≤ b) W r v ∧ Prs W a cap ps ∧ (a = none → cap = 0) ∧ ps.map Lp.p = qs ∧ Below w.heap.size w W

/-- what is so of all pairs and all effects is so of what comes of them. -/
theorem appL_all {p : Li → Prop} {ps : List Lp} (hp : ∀ x ∈ ps, p x.it) : ∀ es : List Le, (∀ e ∈ es, p e.it) → ∀ x ∈ appL ps es, p x.it := by
  intro es he
  induction es generalizing ps with
  | nil => exact hp
  | cons e es ih =>
    show ∀ x ∈ appL (app1L ps e) es, p x.it
    refine ih (fun x hx => ?_) (fun e2 h2 => he e2 (List.mem_cons_of_mem _ h2))
    rcases app1L_mem ps e x hx with h | h
    · exact hp x h
    · rw [h]; exact he e (List.mem_cons_self ..)

set_option maxRecDepth 100000 in
set_option maxHeartbeats 8000000 in
theorem do_any (a : Option Addr) (cap : Nat) (ps : List Lp) (aW : Option Addr) (n cW : Nat) (r : Rp.R) (es : List Db.E) (w : World) (hEx : ∀ W, Below w.heap.size w W → Calls Tryz.prog 9 #[.slice a ps.length cap, .slice aW n cW, .int .i64 0] W (ExecOut (r, es) W))
    (hP : Prs w a cap ps) (hn : ps.length ≤ 100000) (he : es.length ≤ 1000) (ha : a = none → cap = 0) :
    Calls Tryz.prog 13 #[.slice a ps.length cap, .slice aW n cW] w (DoS r (Db.app (ps.map Lp.p) es) w) := by
  have HZ := Lib.hid (Rz.new w)
  have HEX := Lib.hid hEx
  have HP := Lib.hid hP
  have HAP := Lib.hid (fun (b : Option Addr) (cb : Nat) (xs : List Le) (W : World) (h1 : Prs W a cap ps) (h2 : Efs W b cb xs) (h3 : xs.length ≤ 100000) => applyAll_any a cap ps b cb xs W h1 h2 hn h3 ha)
  clear hEx hP
  go_enter Tryz.func13, Tryz.ntmps13
  go_upto_region 2 with (go_at_call 9; refine (HEX.out _ HZ.out.2).mono ?_; rintro e w2 ⟨v, a2, c2, xs, rfl, hrep, hE, hn2, hes, hfar, hb2⟩; obtain ⟨ra, rc, rfl, hfit, hrl⟩ := hrep.parts; obtain ⟨rk, rs, rn, rl⟩ := r; simp only [Rp.R.k, Rp.R.s, Rp.R.n, Rp.R.l] at hrep ⊢; have HZ2 := Lib.hid (HZ.out.later hb2); have HREP := Lib.hid hrep; have HE := Lib.hid hE; have HES := Lib.hid hes; have HFAR := Lib.hid hfar; clear hb2 hrep hE hes hn2 hfar hfit hrl; unfold rv)
  obtain ⟨w3, hw3⟩ : ∃ w3, w2.alloc (.cells #[.int .i64 rk, .string ⟨rs.toArray⟩, .int .i64 rn, .slice ra rl.length rc] 26) = w3 := ⟨_, rfl⟩
  have hb3 : Below w2.heap.size w2 w3 := by rw [← hw3]; exact (Below.refl _ _).alloc (Nat.le_refl _) _
  have hx3 : Rb w3 w2.heap.size rk rs rn ra rl.length rc := by rw [← hw3]; exact World.alloc_heap_new _ _
  have HZ3 := Lib.hid (HZ2.out.later hb3)
  have HREP3 := Lib.hid (HREP.out.later hb3)
  have HE3 := Lib.hid (HE.out.later hb3)
  have hwB : w.heap.size < w2.heap.size := HZ2.out.1.lt
  rw [hw3]
  clear hb3 hw3
  obtain ⟨B, hB⟩ : ∃ B, w2.heap.size = B := ⟨_, rfl⟩
  rw [hB] at hx3 hwB ⊢
  clear hB
  have HS0 : Rb w3.drew B rk rs rn ra rl.length rc := hx3
  refine wp_region_L (S := fun W => Rb W B rk rs rn ra rl.length rc) (f := 6) (by kernel_rfl) ?_
  refine wpAnyL_take (i := 0) (some 14) (v := .agg #[.int .i64 rk, .string ⟨rs.toArray⟩, .int .i64 rn, .slice ra rl.length rc]) rfl rfl (by kernel_rfl) (by kernel_rfl) (by kernel_rfl) (by kernel_rfl) (fun _ _ _ h => h) (by rfl) (fun W hS => ?_) HS0 ?_
  · obtain ⟨⟨x0, x1, x2, x3⟩, -⟩ := hS.at
    go_simp
  try simp only [Act.put, List.setIfInBounds_toArray, List.set_cons_zero, List.set_cons_succ]
  refine wpAnyL_take (i := 1) (some 15) (v := .slice a ps.length cap) rfl rfl (by kernel_rfl) (by kernel_rfl) (by kernel_rfl) (by kernel_rfl) (fun _ _ _ h => h) (by rfl) (fun W hS => ?_) HS0 ?_
  · go_simp
  try simp only [Act.put, List.setIfInBounds_toArray, List.set_cons_zero, List.set_cons_succ]
  refine wpAnyL_take (i := 2) (some 16) (v := .slice a2 xs.length c2) rfl rfl (by kernel_rfl) (by kernel_rfl) (by kernel_rfl) (by kernel_rfl) (fun _ _ _ h => h) (by rfl) (fun W hS => ?_) HS0 ?_
  · go_simp
  try simp only [Act.put, List.setIfInBounds_toArray, List.set_cons_zero, List.set_cons_succ]
  refine wpAnyL_one (j := 3) (by kernel_rfl) rfl (by rfl) (fun K hK => ?_)
  go_simp
  refine (HAP.out a2 c2 xs w3.drew (HP.out.later HZ3.out.2.drew) (HE3.out.later (Below.refl _ _).drew) (by have := congrArg List.length HES.out; rw [List.length_map] at this; simp only at this; omega)).mono ?_
  rintro e w4 ⟨u, rfl, hrow⟩
  obtain ⟨a4, c4, rfl, hP4, hn4⟩ := hrow.prs
  have hb4 : Below w3.heap.size w3 w4 := (Below.refl _ w3).drew.trans hrow.2.1
  have hR4 := HZ3.out.later hb4
  have HZ4 := Lib.hid hR4
  have HS4 : Rb w4 B rk rs rn ra rl.length rc := hx3.later hb4
  have HREP4 := Lib.hid (HREP3.out.later hb4)
  have hB4 : ∀ b off, a4 = some ⟨b, off, none⟩ → b ≠ w.heap.size := fun b off e hb => by
    subst e hb
    have h1 : w3.heap.size ≤ w.heap.size := (hrow.1.lt w.heap.size rfl).1
    have h2 : w.heap.size < w3.heap.size := HZ3.out.1.lt
    exact absurd h1 (Nat.not_le.2 h2)
  have HB4 := Lib.hid hB4
  have HP4 := Lib.hid hP4
  have HN4 := Lib.hid hn4
  refine hK _ _ (fun _ => HS4) ?_
  clear hK K hrow hP4 hn4 hb4 HS0 hB4
  try simp only [Act.put, List.setIfInBounds_toArray, List.set_cons_zero, List.set_cons_succ]
  obtain ⟨⟨z0, z1, z2, z3⟩, ⟨y0, y1, y2, y3⟩⟩ := hR4.1.at
  clear hR4
  refine wpAnyL_one (j := 4) (by kernel_rfl) rfl (by rfl) (fun K hK => ?_)
  go_simp
  have hk5 : Keeps (fun k => k ≠ w.heap.size) w4 (stRb w4 w.heap.size rk rs rn ra rl.length rc) := ((((Keeps.refl _ w4).setCell (p := ⟨w.heap.size, 0, none⟩) (.inr fun h => h rfl) _).setCell (p := ⟨w.heap.size, 1, none⟩) (.inr fun h => h rfl) _).setCell (p := ⟨w.heap.size, 2, none⟩) (.inr fun h => h rfl) _).setCell (p := ⟨w.heap.size, 3, none⟩) (.inr fun h => h rfl) _
  obtain ⟨w5, hw5⟩ : ∃ w5, stRb w4 w.heap.size rk rs rn ra rl.length rc = w5 := ⟨_, rfl⟩
  have hy5 : Rb w5 w.heap.size rk rs rn ra rl.length rc := by rw [← hw5]; exact HZ4.out.1.store _ _ _ _ _ _
  have hb5 : Below w.heap.size w w5 := by rw [← hw5]; exact below_stRb HZ4.out.2 (Nat.le_refl _) _ _ _ _ _ _
  rw [hw5] at hk5
  unfold stRb at hw5
  rw [hw5]
  have HS5 : Rb w5 B rk rs rn ra rl.length rc := hk5.heap HS4 (by show B ≠ w.heap.size; omega)
  refine hK _ _ (fun _ => HS5) ?_
  clear hK K hw5 z0 z1 z2 z3 y0 y1 y2 y3
  try simp only [Act.put, List.setIfInBounds_toArray, List.set_cons_zero, List.set_cons_succ]
  refine wpAnyL_take (i := 5) (some 5) (v := .slice a4 (appL ps xs).length c4) rfl rfl (by kernel_rfl) (by kernel_rfl) (by kernel_rfl) (by kernel_rfl) (fun _ _ _ h => h) (by rfl) (fun W hS => ?_) HS5 ?_
  · go_simp
  try simp only [Act.put, List.setIfInBounds_toArray, List.set_cons_zero, List.set_cons_succ]
  refine wpAnyL_done (by kernel_rfl) ?_ _
  clear HS4 HS5
  go_wp2
  have hfarP : ∀ p ∈ appL ps xs, p.it.Far (some w.heap.size) := appL_all (fun p hp => ((HP.out.2 p hp).2.far (Nat.le_refl _))) xs (fun e he => HFAR.out e he _ (by simp))
  have hP5 : Prs w5 a4 (c4) (appL ps xs) := ⟨HP4.out.1.keep hk5.size fun b off e hlt => hk5.block b hlt (HB4.out b off e), fun p hp => ⟨(HP4.out.2 p hp).1, (HP4.out.2 p hp).2.keptO (O := fun k => k = w.heap.size) (fun g hg => hg ▸ hfarP p hp) hk5⟩⟩
  refine bodyPost_ret (results_cellt rfl rfl (loadRb hy5)) rfl ⟨_, a4, c4, appL ps xs, rfl, ?_, hP5, HN4.out, ?_, hb5⟩
  · exact Rep.keeps (S := fun b => w.heap.size < b) (hk5.mono fun k _ h => by show k ≠ _; omega) (fun k hk _ => by show w.heap.size ≤ k; omega) _ _ (HREP4.out.mono fun k hk _ => by have : (w.alloc (.cells #[.int .i64 0, .string ⟨#[]⟩, .int .i64 0, .slice none 0 0] 26)).heap.size ≤ k := hk; simp at this; omega)
  · rw [appL_p, HES.out]
end Go.Proofs.YtokcbcjonbjkgaaGreatDoor
namespace Go.Proofs.YtokcbcjonbjkgaaGreatDoor
open Go.RowKit Go.Shelf
attribute [local go_sem] Oper.semAt_some
set_option linter.unusedVariables false
set_option linter.unusedSimpArgs false

theorem ex_get : Ec.exec 1 [] Ec.dGet [] [[71, 69, 84], [97]] 0 = (.mk 5 [] 0 [], []) := by kernel_rfl
theorem ex_set : Ec.exec 0 [] Ec.dSet [] [[83, 69, 84], [97], [49]] 0 = (.mk 1 [79, 75] 0 [], [⟨[97], false, ⟨1, [49], [], [], 0⟩⟩]) := by kernel_rfl

set_option maxRecDepth 100000 in
set_option maxHeartbeats 8000000 in
theorem awake_any (w : World) : Calls Tryz.prog 8 #[] w fun e W' => e = .returned (.bool true) ∧ Below w.heap.size w W' := by
  have hg := fun (W : World) => exec_get none 0 [] (some ⟨W.heap.size, 0, none⟩) 2 [97] 0 (W.alloc (.cells #[.string ⟨#[71, 69, 84]⟩, .string ⟨#[97]⟩] 9)) (prs_nil _) (by decide) (fun i j _ h => by simp at h) (by simp) (wds_new W [[71, 69, 84], [97]] (by decide) (by decide)) (by decide) (by decide)
  have hs := fun (W : World) => exec_set none 0 [] (some ⟨W.heap.size, 0, none⟩) 3 [97] [49] 0 (W.alloc (.cells #[.string ⟨#[83, 69, 84]⟩, .string ⟨#[97]⟩, .string ⟨#[49]⟩] 9)) (prs_nil _) (by decide) (fun i j _ h => by simp at h) (by simp) (wds_new W [[83, 69, 84], [97], [49]] (by decide) (by decide)) (by decide) (by decide) (by decide)
  simp only [List.map_nil] at hg hs
  rw [ex_get] at hg
  rw [ex_set] at hs
  have HG := Lib.hid hg
  have HS := Lib.hid hs
  clear hg hs
  go_enter Tryz.func8, Tryz.ntmps8
  go_upto_region 2 with (go_at_call 9; refine (HG.out w).mono ?_; rintro e w2 ⟨v, a2, c2, xs, rfl, hrep, hE, hn2, hes, hfar, hb2⟩; obtain ⟨ra, rc, rfl, hfit, hrl⟩ := hrep.parts; obtain rfl : xs = [] := (by simpa using hes); have HB2 : Hid (Below w.heap.size w w2) := Lib.hid (((Below.refl _ w).alloc (Nat.le_refl _) _).trans (hb2.mono (by simp))); clear hrep hE hn2 hes hfar hb2 hfit hrl; unfold rv; simp only [Rp.R.k, Rp.R.s, Rp.R.n, Rp.R.l, List.length_nil])
  obtain ⟨w3, hw3⟩ : ∃ w3, w2.alloc (.cells #[.int .i64 5, .string ⟨#[]⟩, .int .i64 0, .slice ra 0 rc] 26) = w3 := ⟨_, rfl⟩
  have hx3 : Rb w3 w2.heap.size 5 [] 0 ra 0 rc := by rw [← hw3]; exact World.alloc_heap_new _ _
  have HX3 := Lib.hid hx3
  have HB3 : Hid (Below w.heap.size w w3) := Lib.hid (HB2.out.trans ((by rw [← hw3]; exact (Below.refl _ _).alloc (Nat.le_refl _) _ : Below w2.heap.size w2 w3).mono HB2.out.size))
  rw [hw3]
  clear hx3 hw3
  go_upto_region 3 with (go_at_call 9; refine (HS.out w3).mono ?_; rintro e w4 ⟨v4, a4, c4, ys, rfl, hrep, hE, hn4, hes, hfar, hb4⟩; obtain ⟨sa, sc, rfl, hfit, hrl⟩ := hrep.parts; have HY := Lib.hid hes; have HE4 := Lib.hid hE; have HB4 : Hid (Below w3.heap.size w3 w4) := Lib.hid (((Below.refl _ w3).alloc (Nat.le_refl _) _).trans (hb4.mono (by simp))); clear hrep hE hn4 hes hfar hb4 hfit hrl; unfold rv; simp only [Rp.R.k, Rp.R.s, Rp.R.n, Rp.R.l, List.length_nil])
  have hlen : ys.length = 1 := by have := congrArg List.length HY.out; simpa using this
  obtain ⟨y, hy⟩ : ∃ y, ys = [y] := by
    match ys, hlen with
    | [y], _ => exact ⟨y, rfl⟩
  have hkey : y.key = [97] := by
    have := HY.out
    rw [hy] at this
    have h2 := congrArg (fun l : List Db.E => (l.getD 0 Db.E.zero).key) this
    exact h2
  obtain ⟨w5, hw5⟩ : ∃ w5, w4.alloc (.cells #[.int .i64 1, .string ⟨[79, 75].toArray⟩, .int .i64 0, .slice sa 0 sc] 26) = w5 := ⟨_, rfl⟩
  have hx5 : Rb w5 w4.heap.size 1 [79, 75] 0 sa 0 sc := by rw [← hw5]; exact World.alloc_heap_new _ _
  have hb5 : Below w4.heap.size w4 w5 := by rw [← hw5]; exact (Below.refl _ _).alloc (Nat.le_refl _) _
  have hx3 := (HX3.out.later HB4.out).later hb5
  obtain ⟨bE, oE, haE, hlE, hcE⟩ := HE4.out.get (by omega)
  have c0 := ((hcE 0 (by omega)).later hlE hb5).1
  rw [hy] at c0
  rw [show ([y] : List Le).getD 0 Le.zero = y from rfl, hkey, show oE + 0 * 7 = oE by omega] at c0
  subst hy haE
  obtain ⟨⟨x0, x1, x2, x3⟩, -⟩ := hx3.at
  obtain ⟨⟨z0, z1, z2, z3⟩, -⟩ := hx5.at
  have HB5 := Lib.hid hb5
  rw [show w4.alloc (.cells #[.int .i64 1, .string ⟨#[79, 75]⟩, .int .i64 0, .slice sa 0 sc] 26) = w5 from hw5]
  have hcap := HE4.out.len.1
  clear hcE hb5 hx3 hx5 hw5 hlE hlen
  go_wp2
  go_ret
  exact ⟨rfl, HB3.out.trans ((HB4.out.trans (HB5.out.mono HB4.out.size)).mono HB3.out.size)⟩
end Go.Proofs.YtokcbcjonbjkgaaGreatDoor
namespace Go.Proofs.YtokcbcjonbjkgaaGreatDoor
open Go.RowKit Go.Shelf
set_option linter.unusedVariables false
set_option linter.unusedSimpArgs false

/-- the result's box. -/
def Gb (W : World) (B : Nat) (k : Int) (s : List UInt8) (aF : Option Addr) (nF cF : Nat) (aL : Option Addr) (nL cL : Nat) (x : Int) (b : Bool) : Prop :=
  W.heap[B]? = some (.cells #[.int .i64 k, .string ⟨s.toArray⟩, .slice aF nF cF, .slice aL nL cL, .int .i64 x, .bool b] 50 (0, 0))
def stGb (w : World) (B : Nat) (k : Int) (s : List UInt8) (aF : Option Addr) (nF cF : Nat) (aL : Option Addr) (nL cL : Nat) (x : Int) (b : Bool) : World :=
  (((((w.setCell ⟨B, 0, none⟩ (.int .i64 k)).setCell ⟨B, 1, none⟩ (.string ⟨s.toArray⟩)).setCell ⟨B, 2, none⟩ (.slice aF nF cF)).setCell ⟨B, 3, none⟩ (.slice aL nL cL)).setCell ⟨B, 4, none⟩ (.int .i64 x)).setCell ⟨B, 5, none⟩ (.bool b)
theorem Gb.lt {W : World} {B : Nat} {k : Int} {s : List UInt8} {aF : Option Addr} {nF cF : Nat} {aL : Option Addr} {nL cL : Nat} {x : Int} {b : Bool} (h : Gb W B k s aF nF cF aL nL cL x b) : B < W.heap.size := (Array.getElem?_eq_some_iff.1 h).1
theorem Gb.at {W : World} {B : Nat} {k : Int} {s : List UInt8} {aF : Option Addr} {nF cF : Nat} {aL : Option Addr} {nL cL : Nat} {x : Int} {b : Bool} (h : Gb W B k s aF nF cF aL nL cL x b) :
    (W.cell? ⟨B, 0, none⟩ = some (.int .i64 k) ∧ W.cell? ⟨B, 1, none⟩ = some (.string ⟨s.toArray⟩) ∧ W.cell? ⟨B, 2, none⟩ = some (.slice aF nF cF) ∧ W.cell? ⟨B, 3, none⟩ = some (.slice aL nL cL) ∧ W.cell? ⟨B, 4, none⟩ = some (.int .i64 x) ∧ W.cell? ⟨B, 5, none⟩ = some (.bool b)) ∧
    (W.frozen? ⟨B, 0, none⟩ = false ∧ W.frozen? ⟨B, 1, none⟩ = false ∧ W.frozen? ⟨B, 2, none⟩ = false ∧ W.frozen? ⟨B, 3, none⟩ = false ∧ W.frozen? ⟨B, 4, none⟩ = false ∧ W.frozen? ⟨B, 5, none⟩ = false) := by
  unfold Gb at h
  simp [World.cell?, World.frozen?, h]
theorem Gb.store {W : World} {B : Nat} {k0 : Int} {s0 : List UInt8} {a0 : Option Addr} {n0 c0 : Nat} {a1 : Option Addr} {n1 c1 : Nat} {x0 : Int} {b0 : Bool} (h : Gb W B k0 s0 a0 n0 c0 a1 n1 c1 x0 b0) (k : Int) (s : List UInt8) (aF : Option Addr) (nF cF : Nat) (aL : Option Addr) (nL cL : Nat) (x : Int) (b : Bool) :
    Gb (stGb W B k s aF nF cF aL nL cL x b) B k s aF nF cF aL nL cL x b := by
  unfold Gb at h ⊢
  simp [stGb, World.setCell, Array.getElem?_modify, h]
theorem Keeps.stGb {S : Nat → Prop} {A W : World} (h : Keeps S A W) {B : Nat} (hB : A.heap.size ≤ B ∨ ¬ S B) (k : Int) (s : List UInt8) (aF : Option Addr) (nF cF : Nat) (aL : Option Addr) (nL cL : Nat) (x : Int) (b : Bool) : Keeps S A (stGb W B k s aF nF cF aL nL cL x b) :=
  (((((h.setCell (p := ⟨B, 0, none⟩) hB _).setCell (p := ⟨B, 1, none⟩) hB _).setCell (p := ⟨B, 2, none⟩) hB _).setCell (p := ⟨B, 3, none⟩) hB _).setCell (p := ⟨B, 4, none⟩) hB _).setCell (p := ⟨B, 5, none⟩) hB _
theorem below_stGb {w W : World} {B : Nat} (h : Below w.heap.size w W) (hB : w.heap.size ≤ B) (k : Int) (s : List UInt8) (aF : Option Addr) (nF cF : Nat) (aL : Option Addr) (nL cL : Nat) (x : Int) (b : Bool) : Below w.heap.size w (stGb W B k s aF nF cF aL nL cL x b) :=
  (((((h.setCell (p := ⟨B, 0, none⟩) hB _).setCell (p := ⟨B, 1, none⟩) hB _).setCell (p := ⟨B, 2, none⟩) hB _).setCell (p := ⟨B, 3, none⟩) hB _).setCell (p := ⟨B, 4, none⟩) hB _).setCell (p := ⟨B, 5, none⟩) hB _
theorem loadGb {W : World} {B : Nat} {k : Int} {s : List UInt8} {aF : Option Addr} {nF cF : Nat} {aL : Option Addr} {nL cL : Nat} {x : Int} {b : Bool} (h : Gb W B k s aF nF cF aL nL cL x b) :
    (loadVar 50 ⟨B, 0, none⟩).run Tryz.prog W = .ok (.agg #[.int .i64 k, .string ⟨s.toArray⟩, .slice aF nF cF, .slice aL nL cL, .int .i64 x, .bool b]) W := by
  obtain ⟨⟨h0, h1, h2, h3, h4, h5⟩, -⟩ := h.at
  simp [loadVar, go_sem, h0, h1, h2, h3, h4, h5]
/-- zero, and what was there. -/
def Gz (w W : World) : Prop := Gb W w.heap.size 0 [] none 0 0 none 0 0 0 false ∧ Below w.heap.size w W
theorem Gz.later {w W W' : World} (h : Gz w W) (hb : Below W.heap.size W W') : Gz w W' := ⟨(hb.block _ h.1.lt).trans h.1, h.2.trans (hb.mono h.2.size)⟩
theorem Gz.new (w : World) : Gz w (w.alloc (.cells #[.int .i64 0, .string ⟨#[]⟩, .slice none 0 0, .slice none 0 0, .int .i64 0, .bool false] 50)) := ⟨World.alloc_heap_new w _, (Below.refl _ w).alloc (Nat.le_refl _) _⟩
end Go.Proofs.YtokcbcjonbjkgaaGreatDoor
namespace Go.Proofs.YtokcbcjonbjkgaaGreatDoor
open Go.RowKit Go.Shelf
attribute [local go_sem] Oper.semAt_some
set_option linter.unusedVariables false
set_option linter.unusedSimpArgs false

set_option maxRecDepth 100000 in
set_option maxHeartbeats 4000000 in
theorem raw_any (a : Option Addr) (cap : Nat) (ps : List Lp) (key : List UInt8) (w : World) (hP : Prs w a cap ps) (hn : ps.length ≤ 1000000) :
    Calls Tryz.prog 14 #[.slice a ps.length cap, .string ⟨key.toArray⟩] w fun e W => e = .returned (gotv (rawL ps key)) ∧ Below w.heap.size w W := by
  have HP := Lib.hid hP
  have HZ := Lib.hid (Gz.new w)
  have hnI : (ps.length : Int) ≤ 1000000 := by omega
  clear hP
  go_enter Tryz.func14, Tryz.ntmps14
  go_wp2
  go_loopw [5] (fun i wr => ∃ n : Nat, n ≤ ps.length ∧ i = .int .i64 n ∧ Hid (∀ j, j < n → (ps.getD j Lp.zero).key ≠ key) ∧ Hid (Gz w wr)) (fun i _ => ps.length - (intOf i).toNat)
  case atStart => exact ⟨0, Nat.zero_le _, rfl, Lib.hid fun j h => by omega, HZ⟩
  case round =>
    obtain ⟨n, hn', rfl, HJ, HG⟩ := hrel
    by_cases hlt : n < ps.length
    · have hP1 := HP.out.later HG.out.2
      obtain ⟨b, off, rfl, hb, hc⟩ := hP1.get (by omega)
      have hck := hc n hlt
      have HH := Lib.hid (rawL_hit ps key n hlt HJ.out)
      have HN := Lib.hid (show ¬ (ps.getD n Lp.zero).key = key → ∀ j, j < n + 1 → (ps.getD j Lp.zero).key ≠ key from fun h j hj => by
        rcases Nat.lt_or_ge j n with h' | h'
        · exact HJ.out j h'
        · rw [show j = n by omega]; exact h)
      clear hc
      obtain ⟨⟨key0, k, s, aF, fs, cF, aL, ws, cL, x⟩, hq⟩ : ∃ q, ps.getD n Lp.zero = q := ⟨_, rfl⟩
      rw [hq] at hck HH HN
      clear hq
      obtain ⟨q0, q1, q2, q3, q4, q5⟩ := hck
      simp only [] at q0 q1 q2 q3 q4 q5
      obtain ⟨⟨c0, c1, c2, c3, c4, c5⟩, z0, z1, z2, z3, z4, z5⟩ := HG.out.1.at
      have k0 : (0 : Int) ≤ (n : Int) := by omega
      have k1 : (n : Int) < (ps.length : Int) := by omega
      by_cases he : key0 = key
      · have HE := Lib.hid (HH.out he)
        have he1 : (key0 == key) = true := by simp [he]
        have he2 : (key0 != key) = false := by simp [he]
        clear he HN HH
        have HS := Lib.hid (And.intro (HG.out.1.store k s aF fs.length cF aL ws.length cL x true) (below_stGb HG.out.2 (Nat.le_refl _) k s aF fs.length cF aL ws.length cL x true))
        go_wp2
        exact bodyPost_ret (results_cell rfl rfl (loadGb HS.out.1)) rfl ⟨by rw [HE.out]; rfl, HS.out.2⟩
      · have HE := Lib.hid (HN.out he)
        have he1 : (key0 == key) = false := by simp [he]
        have he2 : (key0 != key) = true := by simp [he]
        clear he HN HH c0 c1 c2 c3 c4 c5
        go_wp2
        go_roundw
        case rel => exact ⟨n + 1, by omega, by go_num, HE, HG⟩
        case measure => simp [intOf]; omega
    · obtain rfl : n = ps.length := by omega
      have HE := Lib.hid (rawL_miss ps key HJ.out)
      obtain ⟨⟨c0, c1, c2, c3, c4, c5⟩, z0, z1, z2, z3, z4, z5⟩ := HG.out.1.at
      have k1 : ¬ (ps.length : Int) < (ps.length : Int) := by omega
      have HS := Lib.hid (And.intro (HG.out.1.store 0 [] none 0 0 none 0 0 0 false) (below_stGb HG.out.2 (Nat.le_refl _) 0 [] none 0 0 none 0 0 0 false))
      go_wp2
      exact bodyPost_ret (results_cell rfl rfl (loadGb HS.out.1)) rfl ⟨by rw [HE.out]; rfl, HS.out.2⟩

end Go.Proofs.YtokcbcjonbjkgaaGreatDoor
namespace Go.Proofs.YtokcbcjonbjkgaaGreatDoor
open Go.RowKit Go.Shelf
attribute [local go_sem] Oper.semAt_some
set_option linter.unusedVariables false
set_option linter.unusedSimpArgs false

/-- a literal list of one effect. -/
def effC (e : Le) : Obj := .cells #[.string ⟨e.key.toArray⟩, .bool e.gone, .int .i64 e.it.k, .string ⟨e.it.s.toArray⟩, .slice e.it.aF e.it.fs.length e.it.cF, .slice e.it.aL e.it.ws.length e.it.cL, .int .i64 e.it.x] 40
theorem efs_one (w : World) (e : Le) (h : e.Ok w) : Efs (w.alloc (effC e)) (some ⟨w.heap.size, 0, none⟩) 1 [e] := by
  refine ⟨⟨by simp, by decide, .inr ⟨w.heap.size, 0, rfl, by simp, fun k hk j hj => ?_⟩⟩, fun p hp => ?_⟩
  · have hk0 : k = 0 := by simp at hk; omega
    subst hk0
    unfold effC
    rw [show 0 + 0 * 7 + j = j by omega, cell_of_row _ _ _ _ 40 (0, 0) (World.alloc_heap_new w _)]
    match j, hj with
    | 0, _ => rfl
    | 1, _ => rfl
    | 2, _ => rfl
    | 3, _ => rfl
    | 4, _ => rfl
    | 5, _ => rfl
    | 6, _ => rfl
  · rw [List.mem_singleton.1 hp]
    exact ⟨h.1, h.2.later ((Below.refl _ _).alloc (Nat.le_refl _) _)⟩
theorem ascL_of {ps : List Lp} {db : List Db.P} (h : ps.map Lp.p = db) (hdb : ∀ i j, i < j → j < db.length → (db.getD i Db.P.zero).key < (db.getD j Db.P.zero).key) : AscL ps := by
  intro i j hij hj
  subst h
  have := hdb i j hij (by simpa using hj)
  rw [map_getD Lp.p ps Lp.zero Db.P.zero (by omega), map_getD Lp.p ps Lp.zero Db.P.zero hj] at this
  exact this
theorem sm_of {ps : List Lp} {db : List Db.P} (h : ps.map Lp.p = db) (hdb : ∀ p ∈ db, p.Sm) : ∀ p ∈ ps, p.p.Sm := fun p hp => hdb _ (by rw [← h]; exact List.mem_map_of_mem hp)
/-- the law's space. -/
structure LSp (W : World) (a : Option Addr) (cap : Nat) (ps : List Lp) (db : List Db.P) : Prop where
  hP : Prs W a cap ps
  hn : a = none → cap = 0
  he : ps.map Lp.p = db
theorem LSp.later {W W' : World} {a : Option Addr} {cap : Nat} {ps : List Lp} {db : List Db.P} (h : LSp W a cap ps db) (hb : Below W.heap.size W W') : LSp W' a cap ps db := ⟨h.hP.later hb, h.hn, h.he⟩
/-- such a space may be handed to exec. -/
structure DbOk (db : List Db.P) : Prop where
  len : db.length ≤ 2
  asc : ∀ i j, i < j → j < db.length → (db.getD i Db.P.zero).key < (db.getD j Db.P.zero).key
  sm : ∀ p ∈ db, p.Sm
theorem lw_ren (W : World) (a : Option Addr) (cap : Nat) (ps : List Lp) (db : List Db.P) (h : LSp W a cap ps db) (hd : DbOk db) (ka kb : List UInt8) (ha : ka.length ≤ 40) (hb : kb.length ≤ 40) (r : Rp.R) (es : List Db.E) (hes : es.length ≤ 1000)
    (hex : Ec.exec 0 [] Ec.dRename db [Ec.REN, ka, kb] 0 = (r, es)) :
    Calls Tryz.prog 13 #[.slice a ps.length cap, .slice (some ⟨W.heap.size, 0, none⟩) 3 3] (W.alloc (.cells #[.string ⟨#[82, 69, 78, 65, 77, 69]⟩, .string ⟨ka.toArray⟩, .string ⟨kb.toArray⟩] 9))
      (DoS r (Db.app db es) (W.alloc (.cells #[.string ⟨#[82, 69, 78, 65, 77, 69]⟩, .string ⟨ka.toArray⟩, .string ⟨kb.toArray⟩] 9))) := by
  have hb1 : Below W.heap.size W (W.alloc (.cells #[.string ⟨#[82, 69, 78, 65, 77, 69]⟩, .string ⟨ka.toArray⟩, .string ⟨kb.toArray⟩] 9)) := (Below.refl _ _).alloc (Nat.le_refl _) _
  have hlen : ps.length ≤ 2 := by have := hd.len; rw [← h.he] at this; simpa using this
  have hw := wds_new W [Ec.REN, ka, kb] (by simp) (by simp [Ec.REN]; omega)
  have := do_any a cap ps (some ⟨W.heap.size, 0, none⟩) 3 3 r es _ (fun W' hb' => by
    have := exec_rename a cap ps (some ⟨W.heap.size, 0, none⟩) 3 ka kb 0 W' ((h.hP.later hb1).later hb') (by omega) (ascL_of h.he hd.asc) (sm_of h.he hd.sm) (hw.later hb') ha hb (by decide)
    rw [h.he] at this
    rw [show Ec.exec 0 [] Ec.dRename db [[82, 69, 78, 65, 77, 69], ka, kb] 0 = (r, es) from hex] at this
    exact this) (h.hP.later hb1) (by omega) hes h.hn
  rw [h.he] at this
  exact this
theorem lw_ttl (W : World) (a : Option Addr) (cap : Nat) (ps : List Lp) (db : List Db.P) (h : LSp W a cap ps db) (hd : DbOk db) (kb : List UInt8) (hb : kb.length ≤ 40) (r : Rp.R) (es : List Db.E) (hes : es.length ≤ 1000)
    (hx : ∀ i, Db.raw db kb = some i → 0 ≤ i.exp ∧ i.exp ≤ 4611686018427387904) (hex : Ec.exec 0 [] Ec.dTtl db [Ec.TTLw, kb] 0 = (r, es)) :
    Calls Tryz.prog 13 #[.slice a ps.length cap, .slice (some ⟨W.heap.size, 0, none⟩) 2 2] (W.alloc (.cells #[.string ⟨#[84, 84, 76]⟩, .string ⟨kb.toArray⟩] 9))
      (DoS r (Db.app db es) (W.alloc (.cells #[.string ⟨#[84, 84, 76]⟩, .string ⟨kb.toArray⟩] 9))) := by
  have hb1 : Below W.heap.size W (W.alloc (.cells #[.string ⟨#[84, 84, 76]⟩, .string ⟨kb.toArray⟩] 9)) := (Below.refl _ _).alloc (Nat.le_refl _) _
  have hlen : ps.length ≤ 2 := by have := hd.len; rw [← h.he] at this; simpa using this
  have hw := wds_new W [Ec.TTLw, kb] (by simp) (by simp [Ec.TTLw]; omega)
  have := do_any a cap ps (some ⟨W.heap.size, 0, none⟩) 2 2 r es _ (fun W' hb' => by
    have := exec_ttl a cap ps (some ⟨W.heap.size, 0, none⟩) 2 kb 0 W' ((h.hP.later hb1).later hb') (by omega) (ascL_of h.he hd.asc) (sm_of h.he hd.sm) (hw.later hb') hb (by decide) (by rw [h.he]; exact hx)
    rw [h.he] at this
    rw [show Ec.exec 0 [] Ec.dTtl db [[84, 84, 76], kb] 0 = (r, es) from hex] at this
    exact this) (h.hP.later hb1) (by omega) hes h.hn
  rw [h.he] at this
  exact this
theorem lw_app (W : World) (a : Option Addr) (cap : Nat) (ps : List Lp) (db : List Db.P) (h : LSp W a cap ps db) (hd : db.length ≤ 2) (e : Le) (he : e.Ok W) :
    Calls Tryz.prog 11 #[.slice a ps.length cap, .slice (some ⟨W.heap.size, 0, none⟩) 1 1] (W.alloc (effC e)) fun r w => ∃ a2 c2 qs, r = .returned (.slice a2 qs.length c2) ∧ LSp w a2 c2 qs (Db.app db [e.e]) ∧ Below W.heap.size W w := by
  have hb1 : Below W.heap.size W (W.alloc (effC e)) := (Below.refl _ _).alloc (Nat.le_refl _) _
  have hlen : ps.length ≤ 2 := by rw [← h.he] at hd; simpa using hd
  refine (applyAll_any a cap ps (some ⟨W.heap.size, 0, none⟩) 1 [e] _ (h.hP.later hb1) (efs_one W e he) (by omega) (by simp) h.hn).mono ?_
  rintro r w ⟨u, rfl, hrow⟩
  obtain ⟨a2, c2, rfl, hP, hn⟩ := hrow.prs
  exact ⟨a2, c2, _, rfl, ⟨hP, hn, by rw [appL_p, h.he]; rfl⟩, hb1.trans (hrow.2.1.mono hb1.size)⟩
theorem lw_raw (W : World) (a : Option Addr) (cap : Nat) (ps : List Lp) (kb : List UInt8) (i : It.I) (h : LSp W a cap ps [⟨kb, i⟩]) : ∃ li : Li, li.i = i ∧ li.Ok W ∧ ps.length = 1 ∧
    Calls Tryz.prog 14 #[.slice a ps.length cap, .string ⟨kb.toArray⟩] W fun e w => e = .returned (.agg #[.int .i64 li.k, .string ⟨li.s.toArray⟩, .slice li.aF li.fs.length li.cF, .slice li.aL li.ws.length li.cL, .int .i64 li.x, .bool true]) ∧ Below W.heap.size W w := by
  have he := h.he
  have hl : ps.length = 1 := by have := congrArg List.length he; simpa using this
  obtain ⟨p, rfl⟩ : ∃ p, ps = [p] := by
    match ps, hl with
    | [p], _ => exact ⟨p, rfl⟩
  have hp : p.p = ⟨kb, i⟩ := by simpa using he
  have hk : p.key = kb := congrArg Db.P.key hp
  refine ⟨p.it, congrArg Db.P.it hp, (h.hP.2 p (by simp)).2, rfl, ?_⟩
  have := raw_any a cap [p] kb W h.hP (by simp)
  rw [show rawL [p] kb = some p.it by simp [rawL, hk]] at this
  exact this
theorem sm_mades {i : It.I} (h : i ∈ Ec.mades) : ({ i with exp := 9 } : It.I).Sm := by
  simp only [Ec.mades, List.mem_cons, List.not_mem_nil, or_false] at h
  rcases h with rfl | rfl | rfl | rfl <;> exact ⟨by decide, by decide, by decide, by simp, by simp⟩
theorem exp_mades {i : It.I} (h : i ∈ Ec.mades) : i.exp = 0 := by
  simp only [Ec.mades, List.mem_cons, List.not_mem_nil, or_false] at h
  rcases h with rfl | rfl | rfl | rfl <;> rfl
theorem ok_one {k : List UInt8} {i : It.I} (hk : k.length ≤ 40) (hi : i.Sm) : DbOk [⟨k, i⟩] := ⟨by simp, fun a b h1 h2 => by simp at h2; omega, fun p hp => by rw [List.mem_singleton.1 hp]; exact ⟨by show k.length ≤ _; omega, hi⟩⟩
theorem ok_two {a b : List UInt8} {i : It.I} (ha : a.length ≤ 40) (hb : b.length ≤ 40) (hab : a ≠ b) (hi : i.Sm) : DbOk (Ec.two a b i) := by
  have ho : Ec.oldI.Sm := ⟨by decide, by decide, by decide, by simp [Ec.oldI], by simp [Ec.oldI]⟩
  unfold Ec.two
  by_cases h : a < b
  · rw [if_pos h]
    refine ⟨by simp, fun x y h1 h2 => ?_, fun p hp => ?_⟩
    · have hx : x = 0 := by simp at h2; omega
      have hy : y = 1 := by simp at h2; omega
      subst hx hy
      exact h
    · simp at hp
      rcases hp with rfl | rfl
      · exact ⟨by show a.length ≤ _; omega, hi⟩
      · exact ⟨by show b.length ≤ _; omega, ho⟩
  · rw [if_neg h]
    refine ⟨by simp, fun x y h1 h2 => ?_, fun p hp => ?_⟩
    · have hx : x = 0 := by simp at h2; omega
      have hy : y = 1 := by simp at h2; omega
      subst hx hy
      show b < a
      rcases List.le_iff_lt_or_eq.1 (List.not_lt.1 h) with h3 | h3
      · exact h3
      · exact absurd h3.symm hab
    · simp at hp
      rcases hp with rfl | rfl
      · exact ⟨by show b.length ≤ _; omega, ho⟩
      · exact ⟨by show a.length ≤ _; omega, hi⟩
end Go.Proofs.YtokcbcjonbjkgaaGreatDoor
namespace Go.Proofs.YtokcbcjonbjkgaaGreatDoor
open Go.RowKit Go.Shelf
attribute [local go_sem] Oper.semAt_some
set_option linter.unusedVariables false
set_option linter.unusedSimpArgs false

set_option maxRecDepth 100000 in
set_option maxHeartbeats 8000000 in
theorem execRenames_go (a0 : Option Addr) (cap0 : Nat) (z0 : List UInt8) (ka kb : List UInt8) (hs : Bool) (w : World) (w0 : Bytes w a0 z0) (hka : ka.length ≤ 9223372036854775807) (hkb : kb.length ≤ 9223372036854775807) :
    Calls Tryz.prog 7 #[.slice a0 z0.length cap0, .string ⟨ka.toArray⟩, .string ⟨kb.toArray⟩, .bool hs] w fun e W => e = .returned (.bool true) ∧ Below w.heap.size w W := by
  have HAW := Lib.hid (fun W => awake_any W)
  by_cases hg : 40 < ka.length ∨ 40 < kb.length
  · by_cases h1 : 40 < ka.length
    · have h1I : (40 : Int) < (ka.length : Int) := by omega
      go_enter Tryz.func7, Tryz.ntmps7
      go_wp2_with (go_at_call 8; refine (HAW.out _).mono ?_; rintro e w2 ⟨rfl, hb2⟩; have HB2 := Lib.hid hb2; clear hb2)
      go_ret
      exact ⟨rfl, HB2.out⟩
    · have h2 : 40 < kb.length := hg.resolve_left h1
      have h1I : ¬ (40 : Int) < (ka.length : Int) := by omega
      have h2I : (40 : Int) < (kb.length : Int) := by omega
      go_enter Tryz.func7, Tryz.ntmps7
      go_wp2_with (go_at_call 8; refine (HAW.out _).mono ?_; rintro e w2 ⟨rfl, hb2⟩; have HB2 := Lib.hid hb2; clear hb2)
      go_ret
      exact ⟨rfl, HB2.out⟩
  have ha : ka.length ≤ 40 := by omega
  have hb : kb.length ≤ 40 := by omega
  have h1I : ¬ (40 : Int) < (ka.length : Int) := by omega
  have h2I : ¬ (40 : Int) < (kb.length : Int) := by omega
  have HMD := Lib.hid (made_any a0 cap0 z0 w w0)
  clear hg w0
  go_enter Tryz.func7, Tryz.ntmps7
  go_upto_region 3 with (fail)
  go_upto_region 4 with (go_at_call 12; refine HMD.out.mono ?_; rintro e w2 ⟨li0, rfl, hok0, hmem0, hb0⟩; obtain ⟨k, s, aF, fs, cF, aL, ls, cL, x⟩ := li0; have HB0 := Lib.hid hb0; have HOK0 := Lib.hid hok0; have HMEM := Lib.hid hmem0; clear hb0 hok0 hmem0; simp only [Li.v, itv])
  obtain ⟨w3, hw3⟩ : ∃ w3, w2.alloc (.cells #[.int .i64 k, .string ⟨s.toArray⟩, .slice aF fs.length cF, .slice aL ls.length cL, .int .i64 x] 38) = w3 := ⟨_, rfl⟩
  have hX3 : ItBox w3 w2.heap.size k s aF fs.length cF aL ls.length cL x := by rw [← hw3]; exact ItBox.new w2 k s aF fs.length cF aL ls.length cL x
  have hb3 : Below w2.heap.size w2 w3 := by rw [← hw3]; exact (Below.refl _ _).alloc (Nat.le_refl _) _
  have HB3 := Lib.hid hb3
  have HX3 := Lib.hid hX3
  rw [hw3]
  clear hw3 hb3
  obtain ⟨x0, x1, x2, x3, x4⟩ := hX3.at
  obtain ⟨y0, y1, y2, y3, y4⟩ := hX3.free
  clear hX3
  go_upto_region 5 with (fail)
  obtain ⟨B9, hB9⟩ : ∃ B9, w2.heap.size = B9 := ⟨_, rfl⟩
  obtain ⟨w4, hw4⟩ : ∃ w4, w3.setCell ⟨B9, 4, none⟩ (.int .i64 9) = w4 := ⟨_, rfl⟩
  have hX4 : ItBox w4 B9 k s aF fs.length cF aL ls.length cL 9 := by
    rw [← hw4, ← hB9]
    have := HX3.out
    unfold ItBox at this ⊢
    simp [World.setCell, Array.getElem?_modify, this]
  have hb4 : Below w2.heap.size w2 w4 := by rw [← hw4]; exact HB3.out.setCell (p := ⟨B9, 4, none⟩) (by rw [hB9]; exact Nat.le_refl _) _
  have HX4 := Lib.hid hX4
  have HB4 : Hid (Below w.heap.size w w4) := Lib.hid (HB0.out.trans (hb4.mono HB0.out.size))
  obtain ⟨li9, hli9⟩ : ∃ li9 : Li, (⟨k, s, aF, fs, cF, aL, ls, cL, 9⟩ : Li) = li9 := ⟨_, rfl⟩
  have HOK : Hid (li9.Ok w4) := Lib.hid (by rw [← hli9]; exact HOK0.out.later hb4)
  have HRI : Hid (Ec.RI li9.i) := Lib.hid (by rw [← hli9]; exact Ec.ri_of HMEM.out)
  have HSM : Hid (li9.i.Sm) := Lib.hid (by rw [← hli9]; exact sm_mades HMEM.out)
  have HAP : Hid (Calls Tryz.prog 11 #[.slice none 0 0, .slice (some ⟨w4.heap.size, 0, none⟩) 1 1] (w4.alloc (.cells #[.string ⟨ka.toArray⟩, .bool false, .int .i64 k, .string ⟨s.toArray⟩, .slice aF fs.length cF, .slice aL ls.length cL, .int .i64 9] 40)) fun r w => ∃ a2 c2 qs, r = .returned (.slice a2 qs.length c2) ∧ LSp w a2 c2 qs [⟨ka, li9.i⟩] ∧ Below w4.heap.size w4 w) :=
    Lib.hid (by
      have := lw_app w4 none 0 [] [] ⟨prs_nil _, fun _ => rfl, rfl⟩ (by simp) ⟨ka, false, li9⟩ ⟨hka, HOK.out⟩
      rw [← hli9] at this ⊢
      exact this)
  have HLI := Lib.hid hli9
  rw [hB9, hw4]
  clear x0 x1 x2 x3 x4 y0 y1 y2 y3 y4 HX3 HB3 HOK0 hX4 hb4 hw4 hli9 hB9
  obtain ⟨x0, x1, x2, x3, x4⟩ := HX4.out.at
  go_upto_region 6 with (go_at_call 11; refine HAP.out.mono ?_; rintro e w6 ⟨a6, c6, ps6, rfl, hL6, hb6⟩; have HL6 := Lib.hid hL6; have HB6 := Lib.hid hb6; clear hL6 hb6)
  clear x0 x1 x2 x3 x4
  have HX6 := Lib.hid ((HX4.out.later HB6.out))
  have HOK6 := Lib.hid (HOK.out.later HB6.out)
  have HBW0 := Lib.hid (HB4.out.trans (HB6.out.mono HB4.out.size))
  by_cases hab : ka = kb
  · subst hab
    cases hs with
    | true =>
      go_upto_region 8 with (fail)
      have HDO : Hid (Calls Tryz.prog 13 #[.slice a6 ps6.length c6, .slice (some ⟨w6.heap.size, 0, none⟩) 3 3] (w6.alloc (.cells #[.string ⟨#[82, 69, 78, 65, 77, 69]⟩, .string ⟨ka.toArray⟩, .string ⟨ka.toArray⟩] 9)) (DoS (.mk 1 [79, 75] 0 []) [⟨ka, li9.i⟩] (w6.alloc (.cells #[.string ⟨#[82, 69, 78, 65, 77, 69]⟩, .string ⟨ka.toArray⟩, .string ⟨ka.toArray⟩] 9)))) :=
        Lib.hid (by
          have := lw_ren w6 a6 c6 ps6 [⟨ka, li9.i⟩] HL6.out (ok_one ha HSM.out) ka ka ha ha Ec.done [] (by simp) (Ec.ren_eq HRI.out _ ka ha (by simp [Db.raw]))
          exact this)
      go_upto_region 9 with (go_at_call 13; refine HDO.out.mono ?_; rintro e w8 ⟨v, a8, c8, ps8, rfl, hrep, hP8, hn8, he8, hb8⟩; obtain ⟨ra, rc, rfl, hfit, hrl⟩ := hrep.parts; have HL8 : Hid (LSp w8 a8 c8 ps8 [⟨ka, li9.i⟩]) := Lib.hid ⟨hP8, hn8, he8⟩; have HB8 : Hid (Below w6.heap.size w6 w8) := Lib.hid (((Below.refl _ _).alloc (Nat.le_refl _) _).trans (hb8.mono (by simp))); clear hrep hP8 hn8 he8 hb8 hfit hrl; unfold rv; simp only [Rp.R.k, Rp.R.s, Rp.R.n, Rp.R.l, List.length_nil])
      have hl8 : ps8.length = 1 := by have := congrArg List.length HL8.out.he; simpa using this
      obtain ⟨B11, hB11⟩ : ∃ B11, w8.heap.size = B11 := ⟨_, rfl⟩
      obtain ⟨w9, hw9⟩ : ∃ w9, w8.alloc (.cells #[.int .i64 1, .string ⟨#[79, 75]⟩, .int .i64 0, .slice ra 0 rc] 26) = w9 := ⟨_, rfl⟩
      have hR9 : Rb w9 B11 1 [79, 75] 0 ra 0 rc := by rw [← hw9, ← hB11]; exact World.alloc_heap_new _ _
      have hb9 : Below w8.heap.size w8 w9 := by rw [← hw9]; exact (Below.refl _ _).alloc (Nat.le_refl _) _
      have HR9 := Lib.hid hR9
      have HB9 := Lib.hid hb9
      obtain ⟨lg, hlg, hokg, -, hrw⟩ := lw_raw w9 a8 c8 ps8 ka li9.i (HL8.out.later hb9)
      rw [hl8] at hrw
      rw [hw9, hB11, hl8]
      have HRW := Lib.hid hrw
      have HOKG := Lib.hid hokg
      have HLG := Lib.hid hlg
      clear hw9 hB11 hR9 hb9 hrw hokg hlg
      obtain ⟨gk, gs, gaF, gfs, gcF, gaL, gls, gcL, gx⟩ := lg
      go_upto_region 10 with (go_at_call 14; refine HRW.out.mono ?_; rintro e w10 ⟨rfl, hb10⟩; have HB10 := Lib.hid hb10; clear hb10)
      obtain ⟨B13, hB13⟩ : ∃ B13, w10.heap.size = B13 := ⟨_, rfl⟩
      obtain ⟨w11, hw11⟩ : ∃ w11, w10.alloc (.cells #[.int .i64 gk, .string ⟨gs.toArray⟩, .slice gaF gfs.length gcF, .slice gaL gls.length gcL, .int .i64 gx, .bool true] 50) = w11 := ⟨_, rfl⟩
      have hG11 : w11.heap[B13]? = some (.cells #[.int .i64 gk, .string ⟨gs.toArray⟩, .slice gaF gfs.length gcF, .slice gaL gls.length gcL, .int .i64 gx, .bool true] 50 (0, 0)) := by rw [← hw11, ← hB13]; exact World.alloc_heap_new _ _
      have hb11 : Below w10.heap.size w10 w11 := by rw [← hw11]; exact (Below.refl _ _).alloc (Nat.le_refl _) _
      have HB11 : Hid (Below w8.heap.size w8 w11) := Lib.hid (HB9.out.trans ((HB10.out.trans (hb11.mono HB10.out.size)).mono HB9.out.size))
      have hB911 : Below w9.heap.size w9 w11 := HB10.out.trans (hb11.mono HB10.out.size)
      have HBW : Hid (Below w.heap.size w w11) := Lib.hid ((HBW0.out.trans (HB8.out.mono HBW0.out.size)).trans (HB11.out.mono (Nat.le_trans HBW0.out.size HB8.out.size)))
      have HOKG11 := Lib.hid (HOKG.out.later hB911)
      obtain ⟨⟨r0, r1, r2, r3⟩, -⟩ := (HR9.out.later hB911).at
      have hX11 := ((HX6.out.later HB8.out).later HB11.out)
      obtain ⟨x0, x1, x2, x3, x4⟩ := hX11.at
      have hOK11 := (HOK6.out.later HB8.out).later HB11.out
      have HSI : Hid (Calls Tryz.prog 15 #[.agg #[.int .i64 gk, .string ⟨gs.toArray⟩, .slice gaF gfs.length gcF, .slice gaL gls.length gcL, .int .i64 gx], .agg #[.int .i64 k, .string ⟨s.toArray⟩, .slice aF fs.length cF, .slice aL ls.length cL, .int .i64 9]] w11 fun e w' => e = .returned (.bool true) ∧ Below w11.heap.size w11 w') := Lib.hid (by
        have h := HOKG11.out
        have h2 := hOK11
        rw [← HLI.out] at h2
        have := refSame_any gk k gx 9 gs s gaF aF gcF cF gfs fs gaL aL gcL cL gls ls w11 h.2.1 h2.2.1 h.2.2.1 h2.2.2.1
        have he : It.sameB ⟨gk, gs, gfs, gls, gx⟩ ⟨k, s, fs, ls, 9⟩ = true := by
          have e1 : (⟨gk, gs, gfs, gls, gx⟩ : It.I) = li9.i := HLG.out
          have e2 : (⟨k, s, fs, ls, 9⟩ : It.I) = li9.i := by rw [← HLI.out]; rfl
          rw [e1, e2]
          exact HRI.out.self
        rw [he] at this
        exact this)
      have g0 : w11.cell? ⟨B13, 0, none⟩ = some (.int .i64 gk) := by simp [World.cell?, hG11]
      have g1 : w11.cell? ⟨B13, 1, none⟩ = some (.string ⟨gs.toArray⟩) := by simp [World.cell?, hG11]
      have g2 : w11.cell? ⟨B13, 2, none⟩ = some (.slice gaF gfs.length gcF) := by simp [World.cell?, hG11]
      have g3 : w11.cell? ⟨B13, 3, none⟩ = some (.slice gaL gls.length gcL) := by simp [World.cell?, hG11]
      have g4 : w11.cell? ⟨B13, 4, none⟩ = some (.int .i64 gx) := by simp [World.cell?, hG11]
      have g5 : w11.cell? ⟨B13, 5, none⟩ = some (.bool true) := by simp [World.cell?, hG11]
      have HL11 := Lib.hid (HL8.out.later HB11.out)
      rw [hw11, hB13]
      clear hw11 hB13 hG11 hb11 hB911 hX11 hOK11
      go_upto_region 12 with (go_at_call 15; refine HSI.out.mono ?_; rintro e w12 ⟨rfl, hb12⟩; have HB12 := Lib.hid hb12; clear hb12)
      clear r0 r1 r2 r3 x0 x1 x2 x3 x4 g0 g1 g2 g3 g4 g5
      have HL12 := Lib.hid (HL11.out.later HB12.out)
      have HBW12 := Lib.hid (HBW.out.trans (HB12.out.mono HBW.out.size))
      go_wp2_with (go_at_call 8; refine (HAW.out _).mono ?_; rintro e w13 ⟨rfl, hb13⟩; have HB13 := Lib.hid hb13; clear hb13)
      go_ret
      exact ⟨rfl, HBW12.out.trans (HB13.out.mono HBW12.out.size)⟩
    | false =>
      go_upto_region 8 with (fail)
      have HDO : Hid (Calls Tryz.prog 13 #[.slice a6 ps6.length c6, .slice (some ⟨w6.heap.size, 0, none⟩) 3 3] (w6.alloc (.cells #[.string ⟨#[82, 69, 78, 65, 77, 69]⟩, .string ⟨ka.toArray⟩, .string ⟨ka.toArray⟩] 9)) (DoS (.mk 1 [79, 75] 0 []) [⟨ka, li9.i⟩] (w6.alloc (.cells #[.string ⟨#[82, 69, 78, 65, 77, 69]⟩, .string ⟨ka.toArray⟩, .string ⟨ka.toArray⟩] 9)))) :=
        Lib.hid (by
          have := lw_ren w6 a6 c6 ps6 [⟨ka, li9.i⟩] HL6.out (ok_one ha HSM.out) ka ka ha ha Ec.done [] (by simp) (Ec.ren_eq HRI.out _ ka ha (by simp [Db.raw]))
          exact this)
      go_upto_region 9 with (go_at_call 13; refine HDO.out.mono ?_; rintro e w8 ⟨v, a8, c8, ps8, rfl, hrep, hP8, hn8, he8, hb8⟩; obtain ⟨ra, rc, rfl, hfit, hrl⟩ := hrep.parts; have HL8 : Hid (LSp w8 a8 c8 ps8 [⟨ka, li9.i⟩]) := Lib.hid ⟨hP8, hn8, he8⟩; have HB8 : Hid (Below w6.heap.size w6 w8) := Lib.hid (((Below.refl _ _).alloc (Nat.le_refl _) _).trans (hb8.mono (by simp))); clear hrep hP8 hn8 he8 hb8 hfit hrl; unfold rv; simp only [Rp.R.k, Rp.R.s, Rp.R.n, Rp.R.l, List.length_nil])
      have hl8 : ps8.length = 1 := by have := congrArg List.length HL8.out.he; simpa using this
      obtain ⟨B11, hB11⟩ : ∃ B11, w8.heap.size = B11 := ⟨_, rfl⟩
      obtain ⟨w9, hw9⟩ : ∃ w9, w8.alloc (.cells #[.int .i64 1, .string ⟨#[79, 75]⟩, .int .i64 0, .slice ra 0 rc] 26) = w9 := ⟨_, rfl⟩
      have hR9 : Rb w9 B11 1 [79, 75] 0 ra 0 rc := by rw [← hw9, ← hB11]; exact World.alloc_heap_new _ _
      have hb9 : Below w8.heap.size w8 w9 := by rw [← hw9]; exact (Below.refl _ _).alloc (Nat.le_refl _) _
      have HR9 := Lib.hid hR9
      have HB9 := Lib.hid hb9
      obtain ⟨lg, hlg, hokg, -, hrw⟩ := lw_raw w9 a8 c8 ps8 ka li9.i (HL8.out.later hb9)
      rw [hl8] at hrw
      rw [hw9, hB11, hl8]
      have HRW := Lib.hid hrw
      have HOKG := Lib.hid hokg
      have HLG := Lib.hid hlg
      clear hw9 hB11 hR9 hb9 hrw hokg hlg
      obtain ⟨gk, gs, gaF, gfs, gcF, gaL, gls, gcL, gx⟩ := lg
      go_upto_region 10 with (go_at_call 14; refine HRW.out.mono ?_; rintro e w10 ⟨rfl, hb10⟩; have HB10 := Lib.hid hb10; clear hb10)
      obtain ⟨B13, hB13⟩ : ∃ B13, w10.heap.size = B13 := ⟨_, rfl⟩
      obtain ⟨w11, hw11⟩ : ∃ w11, w10.alloc (.cells #[.int .i64 gk, .string ⟨gs.toArray⟩, .slice gaF gfs.length gcF, .slice gaL gls.length gcL, .int .i64 gx, .bool true] 50) = w11 := ⟨_, rfl⟩
      have hG11 : w11.heap[B13]? = some (.cells #[.int .i64 gk, .string ⟨gs.toArray⟩, .slice gaF gfs.length gcF, .slice gaL gls.length gcL, .int .i64 gx, .bool true] 50 (0, 0)) := by rw [← hw11, ← hB13]; exact World.alloc_heap_new _ _
      have hb11 : Below w10.heap.size w10 w11 := by rw [← hw11]; exact (Below.refl _ _).alloc (Nat.le_refl _) _
      have HB11 : Hid (Below w8.heap.size w8 w11) := Lib.hid (HB9.out.trans ((HB10.out.trans (hb11.mono HB10.out.size)).mono HB9.out.size))
      have hB911 : Below w9.heap.size w9 w11 := HB10.out.trans (hb11.mono HB10.out.size)
      have HBW : Hid (Below w.heap.size w w11) := Lib.hid ((HBW0.out.trans (HB8.out.mono HBW0.out.size)).trans (HB11.out.mono (Nat.le_trans HBW0.out.size HB8.out.size)))
      have HOKG11 := Lib.hid (HOKG.out.later hB911)
      obtain ⟨⟨r0, r1, r2, r3⟩, -⟩ := (HR9.out.later hB911).at
      have hX11 := ((HX6.out.later HB8.out).later HB11.out)
      obtain ⟨x0, x1, x2, x3, x4⟩ := hX11.at
      have hOK11 := (HOK6.out.later HB8.out).later HB11.out
      have HSI : Hid (Calls Tryz.prog 15 #[.agg #[.int .i64 gk, .string ⟨gs.toArray⟩, .slice gaF gfs.length gcF, .slice gaL gls.length gcL, .int .i64 gx], .agg #[.int .i64 k, .string ⟨s.toArray⟩, .slice aF fs.length cF, .slice aL ls.length cL, .int .i64 9]] w11 fun e w' => e = .returned (.bool true) ∧ Below w11.heap.size w11 w') := Lib.hid (by
        have h := HOKG11.out
        have h2 := hOK11
        rw [← HLI.out] at h2
        have := refSame_any gk k gx 9 gs s gaF aF gcF cF gfs fs gaL aL gcL cL gls ls w11 h.2.1 h2.2.1 h.2.2.1 h2.2.2.1
        have he : It.sameB ⟨gk, gs, gfs, gls, gx⟩ ⟨k, s, fs, ls, 9⟩ = true := by
          have e1 : (⟨gk, gs, gfs, gls, gx⟩ : It.I) = li9.i := HLG.out
          have e2 : (⟨k, s, fs, ls, 9⟩ : It.I) = li9.i := by rw [← HLI.out]; rfl
          rw [e1, e2]
          exact HRI.out.self
        rw [he] at this
        exact this)
      have g0 : w11.cell? ⟨B13, 0, none⟩ = some (.int .i64 gk) := by simp [World.cell?, hG11]
      have g1 : w11.cell? ⟨B13, 1, none⟩ = some (.string ⟨gs.toArray⟩) := by simp [World.cell?, hG11]
      have g2 : w11.cell? ⟨B13, 2, none⟩ = some (.slice gaF gfs.length gcF) := by simp [World.cell?, hG11]
      have g3 : w11.cell? ⟨B13, 3, none⟩ = some (.slice gaL gls.length gcL) := by simp [World.cell?, hG11]
      have g4 : w11.cell? ⟨B13, 4, none⟩ = some (.int .i64 gx) := by simp [World.cell?, hG11]
      have g5 : w11.cell? ⟨B13, 5, none⟩ = some (.bool true) := by simp [World.cell?, hG11]
      have HL11 := Lib.hid (HL8.out.later HB11.out)
      rw [hw11, hB13]
      clear hw11 hB13 hG11 hb11 hB911 hX11 hOK11
      go_upto_region 12 with (go_at_call 15; refine HSI.out.mono ?_; rintro e w12 ⟨rfl, hb12⟩; have HB12 := Lib.hid hb12; clear hb12)
      clear r0 r1 r2 r3 x0 x1 x2 x3 x4 g0 g1 g2 g3 g4 g5
      have HL12 := Lib.hid (HL11.out.later HB12.out)
      have HBW12 := Lib.hid (HBW.out.trans (HB12.out.mono HBW.out.size))
      go_wp2_with (go_at_call 8; refine (HAW.out _).mono ?_; rintro e w13 ⟨rfl, hb13⟩; have HB13 := Lib.hid hb13; clear hb13)
      go_ret
      exact ⟨rfl, HBW12.out.trans (HB13.out.mono HBW12.out.size)⟩
  · have hne : (ka == kb) = false := by simpa using hab
    cases hs with
    | true =>
      go_upto_region 7 with (fail)
      have HA7 : Hid (Calls Tryz.prog 11 #[.slice a6 ps6.length c6, .slice (some ⟨w6.heap.size, 0, none⟩) 1 1] (w6.alloc (.cells #[.string ⟨kb.toArray⟩, .bool false, .int .i64 1, .string ⟨#[111, 108, 100]⟩, .slice none 0 0, .slice none 0 0, .int .i64 0] 40)) fun r w => ∃ a2 c2 qs, r = .returned (.slice a2 qs.length c2) ∧ LSp w a2 c2 qs (Ec.two ka kb li9.i) ∧ Below w6.heap.size w6 w) :=
        Lib.hid (by
          have := lw_app w6 a6 c6 ps6 [⟨ka, li9.i⟩] HL6.out (by simp) ⟨kb, false, ⟨1, [111, 108, 100], none, [], 0, none, [], 0, 0⟩⟩ ⟨hkb, ⟨by simp, fds_nil _, wds_nil _, fun _ => rfl, fun _ => rfl⟩⟩
          rw [show Db.app [⟨ka, li9.i⟩] [Le.e ⟨kb, false, ⟨1, [111, 108, 100], none, [], 0, none, [], 0, 0⟩⟩] = Ec.two ka kb li9.i from Ec.app_two ka kb li9.i hab] at this
          exact this)
      go_upto_region 8 with (go_at_call 11; refine HA7.out.mono ?_; rintro e w7 ⟨a7, c7, ps7, rfl, hL7, hb7⟩; have HL7 := Lib.hid hL7; have HB7 := Lib.hid hb7; clear hL7 hb7)
      have HX7 := Lib.hid (HX6.out.later HB7.out)
      have HOK7 := Lib.hid (HOK6.out.later HB7.out)
      have HBW7 := Lib.hid (HBW0.out.trans (HB7.out.mono HBW0.out.size))
      have HDO : Hid (Calls Tryz.prog 13 #[.slice a7 ps7.length c7, .slice (some ⟨w7.heap.size, 0, none⟩) 3 3] (w7.alloc (.cells #[.string ⟨#[82, 69, 78, 65, 77, 69]⟩, .string ⟨ka.toArray⟩, .string ⟨kb.toArray⟩] 9)) (DoS (.mk 1 [79, 75] 0 []) [⟨kb, li9.i⟩] (w7.alloc (.cells #[.string ⟨#[82, 69, 78, 65, 77, 69]⟩, .string ⟨ka.toArray⟩, .string ⟨kb.toArray⟩] 9)))) :=
        Lib.hid (by
          have := lw_ren w7 a7 c7 ps7 (Ec.two ka kb li9.i) HL7.out (ok_two ha hb hab HSM.out) ka kb ha hb Ec.done [⟨ka, true, Ec.z0⟩, ⟨kb, false, li9.i⟩] (by simp) (Ec.ren_ne HRI.out _ ka kb hab ha hb (Ec.raw_two ka kb li9.i hab).1 (.inr (Ec.raw_two ka kb li9.i hab).2))
          rw [Ec.app_ren2 ka kb li9.i hab] at this
          exact this)
      go_upto_region 9 with (go_at_call 13; refine HDO.out.mono ?_; rintro e w8 ⟨v, a8, c8, ps8, rfl, hrep, hP8, hn8, he8, hb8⟩; obtain ⟨ra, rc, rfl, hfit, hrl⟩ := hrep.parts; have HL8 : Hid (LSp w8 a8 c8 ps8 [⟨kb, li9.i⟩]) := Lib.hid ⟨hP8, hn8, he8⟩; have HB8 : Hid (Below w7.heap.size w7 w8) := Lib.hid (((Below.refl _ _).alloc (Nat.le_refl _) _).trans (hb8.mono (by simp))); clear hrep hP8 hn8 he8 hb8 hfit hrl; unfold rv; simp only [Rp.R.k, Rp.R.s, Rp.R.n, Rp.R.l, List.length_nil])
      have hl8 : ps8.length = 1 := by have := congrArg List.length HL8.out.he; simpa using this
      obtain ⟨B11, hB11⟩ : ∃ B11, w8.heap.size = B11 := ⟨_, rfl⟩
      obtain ⟨w9, hw9⟩ : ∃ w9, w8.alloc (.cells #[.int .i64 1, .string ⟨#[79, 75]⟩, .int .i64 0, .slice ra 0 rc] 26) = w9 := ⟨_, rfl⟩
      have hR9 : Rb w9 B11 1 [79, 75] 0 ra 0 rc := by rw [← hw9, ← hB11]; exact World.alloc_heap_new _ _
      have hb9 : Below w8.heap.size w8 w9 := by rw [← hw9]; exact (Below.refl _ _).alloc (Nat.le_refl _) _
      have HR9 := Lib.hid hR9
      have HB9 := Lib.hid hb9
      obtain ⟨lg, hlg, hokg, -, hrw⟩ := lw_raw w9 a8 c8 ps8 kb li9.i (HL8.out.later hb9)
      rw [hl8] at hrw
      rw [hw9, hB11, hl8]
      have HRW := Lib.hid hrw
      have HOKG := Lib.hid hokg
      have HLG := Lib.hid hlg
      clear hw9 hB11 hR9 hb9 hrw hokg hlg
      obtain ⟨gk, gs, gaF, gfs, gcF, gaL, gls, gcL, gx⟩ := lg
      go_upto_region 10 with (go_at_call 14; refine HRW.out.mono ?_; rintro e w10 ⟨rfl, hb10⟩; have HB10 := Lib.hid hb10; clear hb10)
      obtain ⟨B13, hB13⟩ : ∃ B13, w10.heap.size = B13 := ⟨_, rfl⟩
      obtain ⟨w11, hw11⟩ : ∃ w11, w10.alloc (.cells #[.int .i64 gk, .string ⟨gs.toArray⟩, .slice gaF gfs.length gcF, .slice gaL gls.length gcL, .int .i64 gx, .bool true] 50) = w11 := ⟨_, rfl⟩
      have hG11 : w11.heap[B13]? = some (.cells #[.int .i64 gk, .string ⟨gs.toArray⟩, .slice gaF gfs.length gcF, .slice gaL gls.length gcL, .int .i64 gx, .bool true] 50 (0, 0)) := by rw [← hw11, ← hB13]; exact World.alloc_heap_new _ _
      have hb11 : Below w10.heap.size w10 w11 := by rw [← hw11]; exact (Below.refl _ _).alloc (Nat.le_refl _) _
      have HB11 : Hid (Below w8.heap.size w8 w11) := Lib.hid (HB9.out.trans ((HB10.out.trans (hb11.mono HB10.out.size)).mono HB9.out.size))
      have hB911 : Below w9.heap.size w9 w11 := HB10.out.trans (hb11.mono HB10.out.size)
      have HBW : Hid (Below w.heap.size w w11) := Lib.hid ((HBW7.out.trans (HB8.out.mono HBW7.out.size)).trans (HB11.out.mono (Nat.le_trans HBW7.out.size HB8.out.size)))
      have HOKG11 := Lib.hid (HOKG.out.later hB911)
      obtain ⟨⟨r0, r1, r2, r3⟩, -⟩ := (HR9.out.later hB911).at
      have hX11 := ((HX7.out.later HB8.out).later HB11.out)
      obtain ⟨x0, x1, x2, x3, x4⟩ := hX11.at
      have hOK11 := (HOK7.out.later HB8.out).later HB11.out
      have HSI : Hid (Calls Tryz.prog 15 #[.agg #[.int .i64 gk, .string ⟨gs.toArray⟩, .slice gaF gfs.length gcF, .slice gaL gls.length gcL, .int .i64 gx], .agg #[.int .i64 k, .string ⟨s.toArray⟩, .slice aF fs.length cF, .slice aL ls.length cL, .int .i64 9]] w11 fun e w' => e = .returned (.bool true) ∧ Below w11.heap.size w11 w') := Lib.hid (by
        have h := HOKG11.out
        have h2 := hOK11
        rw [← HLI.out] at h2
        have := refSame_any gk k gx 9 gs s gaF aF gcF cF gfs fs gaL aL gcL cL gls ls w11 h.2.1 h2.2.1 h.2.2.1 h2.2.2.1
        have he : It.sameB ⟨gk, gs, gfs, gls, gx⟩ ⟨k, s, fs, ls, 9⟩ = true := by
          have e1 : (⟨gk, gs, gfs, gls, gx⟩ : It.I) = li9.i := HLG.out
          have e2 : (⟨k, s, fs, ls, 9⟩ : It.I) = li9.i := by rw [← HLI.out]; rfl
          rw [e1, e2]
          exact HRI.out.self
        rw [he] at this
        exact this)
      have g0 : w11.cell? ⟨B13, 0, none⟩ = some (.int .i64 gk) := by simp [World.cell?, hG11]
      have g1 : w11.cell? ⟨B13, 1, none⟩ = some (.string ⟨gs.toArray⟩) := by simp [World.cell?, hG11]
      have g2 : w11.cell? ⟨B13, 2, none⟩ = some (.slice gaF gfs.length gcF) := by simp [World.cell?, hG11]
      have g3 : w11.cell? ⟨B13, 3, none⟩ = some (.slice gaL gls.length gcL) := by simp [World.cell?, hG11]
      have g4 : w11.cell? ⟨B13, 4, none⟩ = some (.int .i64 gx) := by simp [World.cell?, hG11]
      have g5 : w11.cell? ⟨B13, 5, none⟩ = some (.bool true) := by simp [World.cell?, hG11]
      have HL11 := Lib.hid (HL8.out.later HB11.out)
      rw [hw11, hB13]
      clear hw11 hB13 hG11 hb11 hB911 hX11 hOK11
      go_upto_region 12 with (go_at_call 15; refine HSI.out.mono ?_; rintro e w12 ⟨rfl, hb12⟩; have HB12 := Lib.hid hb12; clear hb12)
      clear r0 r1 r2 r3 x0 x1 x2 x3 x4 g0 g1 g2 g3 g4 g5
      have HL12 := Lib.hid (HL11.out.later HB12.out)
      have HBW12 := Lib.hid (HBW.out.trans (HB12.out.mono HBW.out.size))
      have HDR : Hid (Calls Tryz.prog 13 #[.slice a8 1 c8, .slice (some ⟨w12.heap.size, 0, none⟩) 3 3] (w12.alloc (.cells #[.string ⟨#[82, 69, 78, 65, 77, 69]⟩, .string ⟨ka.toArray⟩, .string ⟨kb.toArray⟩] 9)) (DoS (.mk 2 [69, 82, 82] 0 []) [⟨kb, li9.i⟩] (w12.alloc (.cells #[.string ⟨#[82, 69, 78, 65, 77, 69]⟩, .string ⟨ka.toArray⟩, .string ⟨kb.toArray⟩] 9)))) :=
        Lib.hid (by
          have := lw_ren w12 a8 c8 ps8 [⟨kb, li9.i⟩] HL12.out (ok_one hb HSM.out) ka kb ha hb Ec.errR [] (by simp) (Ec.ren_no ka kb hab ha hb)
          rw [hl8] at this
          exact this)
      go_upto_region 15 with (go_at_call 13; refine HDR.out.mono ?_; rintro e w14 ⟨v, a14, c14, ps14, rfl, hrep, hP8, hn8, he8, hb8⟩; obtain ⟨sa, sc, rfl, hfit, hrl⟩ := hrep.parts; have HL14 : Hid (LSp w14 a14 c14 ps14 [⟨kb, li9.i⟩]) := Lib.hid ⟨hP8, hn8, he8⟩; have HB14 : Hid (Below w12.heap.size w12 w14) := Lib.hid (((Below.refl _ _).alloc (Nat.le_refl _) _).trans (hb8.mono (by simp))); clear hrep hP8 hn8 he8 hb8 hfit hrl; unfold rv; simp only [Rp.R.k, Rp.R.s, Rp.R.n, Rp.R.l, List.length_nil])
      have hl14 : ps14.length = 1 := by have := congrArg List.length HL14.out.he; simpa using this
      obtain ⟨B14, hB14⟩ : ∃ B14, w14.heap.size = B14 := ⟨_, rfl⟩
      obtain ⟨w15, hw15⟩ : ∃ w15, w14.alloc (.cells #[.int .i64 2, .string ⟨#[69, 82, 82]⟩, .int .i64 0, .slice sa 0 sc] 26) = w15 := ⟨_, rfl⟩
      have hR15 : Rb w15 B14 2 [69, 82, 82] 0 sa 0 sc := by rw [← hw15, ← hB14]; exact World.alloc_heap_new _ _
      have hb15 : Below w14.heap.size w14 w15 := by rw [← hw15]; exact (Below.refl _ _).alloc (Nat.le_refl _) _
      have HR15 := Lib.hid hR15
      have HB15 : Hid (Below w12.heap.size w12 w15) := Lib.hid (HB14.out.trans (hb15.mono HB14.out.size))
      have HL15 := Lib.hid (HL14.out.later hb15)
      have HM15 := Lib.hid (HL12.out.later HB15.out)
      have HDT : Hid (Calls Tryz.prog 13 #[.slice a8 1 c8, .slice (some ⟨w15.heap.size, 0, none⟩) 2 2] (w15.alloc (.cells #[.string ⟨#[84, 84, 76]⟩, .string ⟨kb.toArray⟩] 9)) (DoS (.mk 3 [] 9 []) [⟨kb, li9.i⟩] (w15.alloc (.cells #[.string ⟨#[84, 84, 76]⟩, .string ⟨kb.toArray⟩] 9)))) :=
        Lib.hid (by
          have := lw_ttl w15 a8 c8 ps8 [⟨kb, li9.i⟩] HM15.out (ok_one hb HSM.out) kb hb (Ec.num 9) [] (by simp) (fun i h => by
            have : li9.i = i := by simpa [Db.raw] using h
            rw [← this, HRI.out.ex]; decide) (Ec.ttl_yes HRI.out kb hb)
          rw [hl8] at this
          exact this)
      rw [hw15, hB14, hl14]
      clear hw15 hB14 hR15 hb15
      go_upto_region 16 with (go_at_call 13; refine HDT.out.mono ?_; rintro e w16 ⟨v, a16, c16, ps16, rfl, hrep, hP8, hn8, he8, hb8⟩; obtain ⟨ta, tc, rfl, hfit, hrl⟩ := hrep.parts; have HB16 : Hid (Below w15.heap.size w15 w16) := Lib.hid (((Below.refl _ _).alloc (Nat.le_refl _) _).trans (hb8.mono (by simp))); clear hrep hP8 hn8 he8 hb8 hfit hrl; unfold rv; simp only [Rp.R.k, Rp.R.s, Rp.R.n, Rp.R.l, List.length_nil])
      obtain ⟨B16, hB16⟩ : ∃ B16, w16.heap.size = B16 := ⟨_, rfl⟩
      obtain ⟨w17, hw17⟩ : ∃ w17, w16.alloc (.cells #[.int .i64 3, .string ⟨#[]⟩, .int .i64 9, .slice ta 0 tc] 26) = w17 := ⟨_, rfl⟩
      have hR17 : Rb w17 B16 3 [] 9 ta 0 tc := by rw [← hw17, ← hB16]; exact World.alloc_heap_new _ _
      have hb17 : Below w16.heap.size w16 w17 := by rw [← hw17]; exact (Below.refl _ _).alloc (Nat.le_refl _) _
      have hB1517 : Below w15.heap.size w15 w17 := HB16.out.trans (hb17.mono HB16.out.size)
      obtain ⟨⟨t0, t1, t2, t3⟩, -⟩ := hR17.at
      have ht17 := hR17.lt
      obtain ⟨⟨r0, r1, r2, r3⟩, -⟩ := (HR15.out.later hB1517).at
      have HBW17 : Hid (Below w.heap.size w w17) := Lib.hid ((HBW12.out.trans (HB15.out.mono HBW12.out.size)).trans (hB1517.mono (Nat.le_trans HBW12.out.size HB15.out.size)))
      have HSS : Hid (Calls Tryz.prog 16 #[.slice a14 1 c14, .slice a8 1 c8] w17 fun r W => r = .returned (.bool true) ∧ Below w17.heap.size w17 W) := Lib.hid (by
        have := sameSpace_any a14 c14 ps14 a8 c8 ps8 w17 (HL15.out.later hB1517).hP (HM15.out.later hB1517).hP (by omega) (by omega)
        rw [HL15.out.he, HM15.out.he, hl14, hl8] at this
        rw [show Db.sameS [⟨kb, li9.i⟩] [⟨kb, li9.i⟩] = true by simp [Db.sameS, Db.sameAt, HRI.out.self, List.range_succ]] at this
        exact this)
      rw [hw17, hB16]
      clear hw17 hB16 hR17 hb17 hB1517
      go_wp2_with (first | (go_at_call 16; refine HSS.out.mono ?_; rintro e w18 ⟨rfl, hb18⟩; have t2b := (hb18.cell (p := ⟨B16, 2, none⟩) ht17).trans t2; have HB18 := Lib.hid hb18; clear hb18) | (go_at_call 8; refine (HAW.out _).mono ?_; rintro e w19 ⟨rfl, hb19⟩; have HB19 := Lib.hid hb19; clear hb19))
      go_ret
      exact ⟨rfl, (HBW17.out.trans (HB18.out.mono HBW17.out.size)).trans (HB19.out.mono (Nat.le_trans HBW17.out.size HB18.out.size))⟩
    | false =>
      go_upto_region 8 with (fail)
      have HDO : Hid (Calls Tryz.prog 13 #[.slice a6 ps6.length c6, .slice (some ⟨w6.heap.size, 0, none⟩) 3 3] (w6.alloc (.cells #[.string ⟨#[82, 69, 78, 65, 77, 69]⟩, .string ⟨ka.toArray⟩, .string ⟨kb.toArray⟩] 9)) (DoS (.mk 1 [79, 75] 0 []) [⟨kb, li9.i⟩] (w6.alloc (.cells #[.string ⟨#[82, 69, 78, 65, 77, 69]⟩, .string ⟨ka.toArray⟩, .string ⟨kb.toArray⟩] 9)))) :=
        Lib.hid (by
          have := lw_ren w6 a6 c6 ps6 [⟨ka, li9.i⟩] HL6.out (ok_one ha HSM.out) ka kb ha hb Ec.done [⟨ka, true, Ec.z0⟩, ⟨kb, false, li9.i⟩] (by simp) (Ec.ren_ne HRI.out _ ka kb hab ha hb (by simp [Db.raw]) (.inl (by simp [Db.raw, hab])))
          rw [Ec.app_ren1 ka kb li9.i hab] at this
          exact this)
      go_upto_region 9 with (go_at_call 13; refine HDO.out.mono ?_; rintro e w8 ⟨v, a8, c8, ps8, rfl, hrep, hP8, hn8, he8, hb8⟩; obtain ⟨ra, rc, rfl, hfit, hrl⟩ := hrep.parts; have HL8 : Hid (LSp w8 a8 c8 ps8 [⟨kb, li9.i⟩]) := Lib.hid ⟨hP8, hn8, he8⟩; have HB8 : Hid (Below w6.heap.size w6 w8) := Lib.hid (((Below.refl _ _).alloc (Nat.le_refl _) _).trans (hb8.mono (by simp))); clear hrep hP8 hn8 he8 hb8 hfit hrl; unfold rv; simp only [Rp.R.k, Rp.R.s, Rp.R.n, Rp.R.l, List.length_nil])
      have hl8 : ps8.length = 1 := by have := congrArg List.length HL8.out.he; simpa using this
      obtain ⟨B11, hB11⟩ : ∃ B11, w8.heap.size = B11 := ⟨_, rfl⟩
      obtain ⟨w9, hw9⟩ : ∃ w9, w8.alloc (.cells #[.int .i64 1, .string ⟨#[79, 75]⟩, .int .i64 0, .slice ra 0 rc] 26) = w9 := ⟨_, rfl⟩
      have hR9 : Rb w9 B11 1 [79, 75] 0 ra 0 rc := by rw [← hw9, ← hB11]; exact World.alloc_heap_new _ _
      have hb9 : Below w8.heap.size w8 w9 := by rw [← hw9]; exact (Below.refl _ _).alloc (Nat.le_refl _) _
      have HR9 := Lib.hid hR9
      have HB9 := Lib.hid hb9
      obtain ⟨lg, hlg, hokg, -, hrw⟩ := lw_raw w9 a8 c8 ps8 kb li9.i (HL8.out.later hb9)
      rw [hl8] at hrw
      rw [hw9, hB11, hl8]
      have HRW := Lib.hid hrw
      have HOKG := Lib.hid hokg
      have HLG := Lib.hid hlg
      clear hw9 hB11 hR9 hb9 hrw hokg hlg
      obtain ⟨gk, gs, gaF, gfs, gcF, gaL, gls, gcL, gx⟩ := lg
      go_upto_region 10 with (go_at_call 14; refine HRW.out.mono ?_; rintro e w10 ⟨rfl, hb10⟩; have HB10 := Lib.hid hb10; clear hb10)
      obtain ⟨B13, hB13⟩ : ∃ B13, w10.heap.size = B13 := ⟨_, rfl⟩
      obtain ⟨w11, hw11⟩ : ∃ w11, w10.alloc (.cells #[.int .i64 gk, .string ⟨gs.toArray⟩, .slice gaF gfs.length gcF, .slice gaL gls.length gcL, .int .i64 gx, .bool true] 50) = w11 := ⟨_, rfl⟩
      have hG11 : w11.heap[B13]? = some (.cells #[.int .i64 gk, .string ⟨gs.toArray⟩, .slice gaF gfs.length gcF, .slice gaL gls.length gcL, .int .i64 gx, .bool true] 50 (0, 0)) := by rw [← hw11, ← hB13]; exact World.alloc_heap_new _ _
      have hb11 : Below w10.heap.size w10 w11 := by rw [← hw11]; exact (Below.refl _ _).alloc (Nat.le_refl _) _
      have HB11 : Hid (Below w8.heap.size w8 w11) := Lib.hid (HB9.out.trans ((HB10.out.trans (hb11.mono HB10.out.size)).mono HB9.out.size))
      have hB911 : Below w9.heap.size w9 w11 := HB10.out.trans (hb11.mono HB10.out.size)
      have HBW : Hid (Below w.heap.size w w11) := Lib.hid ((HBW0.out.trans (HB8.out.mono HBW0.out.size)).trans (HB11.out.mono (Nat.le_trans HBW0.out.size HB8.out.size)))
      have HOKG11 := Lib.hid (HOKG.out.later hB911)
      obtain ⟨⟨r0, r1, r2, r3⟩, -⟩ := (HR9.out.later hB911).at
      have hX11 := ((HX6.out.later HB8.out).later HB11.out)
      obtain ⟨x0, x1, x2, x3, x4⟩ := hX11.at
      have hOK11 := (HOK6.out.later HB8.out).later HB11.out
      have HSI : Hid (Calls Tryz.prog 15 #[.agg #[.int .i64 gk, .string ⟨gs.toArray⟩, .slice gaF gfs.length gcF, .slice gaL gls.length gcL, .int .i64 gx], .agg #[.int .i64 k, .string ⟨s.toArray⟩, .slice aF fs.length cF, .slice aL ls.length cL, .int .i64 9]] w11 fun e w' => e = .returned (.bool true) ∧ Below w11.heap.size w11 w') := Lib.hid (by
        have h := HOKG11.out
        have h2 := hOK11
        rw [← HLI.out] at h2
        have := refSame_any gk k gx 9 gs s gaF aF gcF cF gfs fs gaL aL gcL cL gls ls w11 h.2.1 h2.2.1 h.2.2.1 h2.2.2.1
        have he : It.sameB ⟨gk, gs, gfs, gls, gx⟩ ⟨k, s, fs, ls, 9⟩ = true := by
          have e1 : (⟨gk, gs, gfs, gls, gx⟩ : It.I) = li9.i := HLG.out
          have e2 : (⟨k, s, fs, ls, 9⟩ : It.I) = li9.i := by rw [← HLI.out]; rfl
          rw [e1, e2]
          exact HRI.out.self
        rw [he] at this
        exact this)
      have g0 : w11.cell? ⟨B13, 0, none⟩ = some (.int .i64 gk) := by simp [World.cell?, hG11]
      have g1 : w11.cell? ⟨B13, 1, none⟩ = some (.string ⟨gs.toArray⟩) := by simp [World.cell?, hG11]
      have g2 : w11.cell? ⟨B13, 2, none⟩ = some (.slice gaF gfs.length gcF) := by simp [World.cell?, hG11]
      have g3 : w11.cell? ⟨B13, 3, none⟩ = some (.slice gaL gls.length gcL) := by simp [World.cell?, hG11]
      have g4 : w11.cell? ⟨B13, 4, none⟩ = some (.int .i64 gx) := by simp [World.cell?, hG11]
      have g5 : w11.cell? ⟨B13, 5, none⟩ = some (.bool true) := by simp [World.cell?, hG11]
      have HL11 := Lib.hid (HL8.out.later HB11.out)
      rw [hw11, hB13]
      clear hw11 hB13 hG11 hb11 hB911 hX11 hOK11
      go_upto_region 12 with (go_at_call 15; refine HSI.out.mono ?_; rintro e w12 ⟨rfl, hb12⟩; have HB12 := Lib.hid hb12; clear hb12)
      clear r0 r1 r2 r3 x0 x1 x2 x3 x4 g0 g1 g2 g3 g4 g5
      have HL12 := Lib.hid (HL11.out.later HB12.out)
      have HBW12 := Lib.hid (HBW.out.trans (HB12.out.mono HBW.out.size))
      have HDR : Hid (Calls Tryz.prog 13 #[.slice a8 1 c8, .slice (some ⟨w12.heap.size, 0, none⟩) 3 3] (w12.alloc (.cells #[.string ⟨#[82, 69, 78, 65, 77, 69]⟩, .string ⟨ka.toArray⟩, .string ⟨kb.toArray⟩] 9)) (DoS (.mk 2 [69, 82, 82] 0 []) [⟨kb, li9.i⟩] (w12.alloc (.cells #[.string ⟨#[82, 69, 78, 65, 77, 69]⟩, .string ⟨ka.toArray⟩, .string ⟨kb.toArray⟩] 9)))) :=
        Lib.hid (by
          have := lw_ren w12 a8 c8 ps8 [⟨kb, li9.i⟩] HL12.out (ok_one hb HSM.out) ka kb ha hb Ec.errR [] (by simp) (Ec.ren_no ka kb hab ha hb)
          rw [hl8] at this
          exact this)
      go_upto_region 15 with (go_at_call 13; refine HDR.out.mono ?_; rintro e w14 ⟨v, a14, c14, ps14, rfl, hrep, hP8, hn8, he8, hb8⟩; obtain ⟨sa, sc, rfl, hfit, hrl⟩ := hrep.parts; have HL14 : Hid (LSp w14 a14 c14 ps14 [⟨kb, li9.i⟩]) := Lib.hid ⟨hP8, hn8, he8⟩; have HB14 : Hid (Below w12.heap.size w12 w14) := Lib.hid (((Below.refl _ _).alloc (Nat.le_refl _) _).trans (hb8.mono (by simp))); clear hrep hP8 hn8 he8 hb8 hfit hrl; unfold rv; simp only [Rp.R.k, Rp.R.s, Rp.R.n, Rp.R.l, List.length_nil])
      have hl14 : ps14.length = 1 := by have := congrArg List.length HL14.out.he; simpa using this
      obtain ⟨B14, hB14⟩ : ∃ B14, w14.heap.size = B14 := ⟨_, rfl⟩
      obtain ⟨w15, hw15⟩ : ∃ w15, w14.alloc (.cells #[.int .i64 2, .string ⟨#[69, 82, 82]⟩, .int .i64 0, .slice sa 0 sc] 26) = w15 := ⟨_, rfl⟩
      have hR15 : Rb w15 B14 2 [69, 82, 82] 0 sa 0 sc := by rw [← hw15, ← hB14]; exact World.alloc_heap_new _ _
      have hb15 : Below w14.heap.size w14 w15 := by rw [← hw15]; exact (Below.refl _ _).alloc (Nat.le_refl _) _
      have HR15 := Lib.hid hR15
      have HB15 : Hid (Below w12.heap.size w12 w15) := Lib.hid (HB14.out.trans (hb15.mono HB14.out.size))
      have HL15 := Lib.hid (HL14.out.later hb15)
      have HM15 := Lib.hid (HL12.out.later HB15.out)
      have HDT : Hid (Calls Tryz.prog 13 #[.slice a8 1 c8, .slice (some ⟨w15.heap.size, 0, none⟩) 2 2] (w15.alloc (.cells #[.string ⟨#[84, 84, 76]⟩, .string ⟨kb.toArray⟩] 9)) (DoS (.mk 3 [] 9 []) [⟨kb, li9.i⟩] (w15.alloc (.cells #[.string ⟨#[84, 84, 76]⟩, .string ⟨kb.toArray⟩] 9)))) :=
        Lib.hid (by
          have := lw_ttl w15 a8 c8 ps8 [⟨kb, li9.i⟩] HM15.out (ok_one hb HSM.out) kb hb (Ec.num 9) [] (by simp) (fun i h => by
            have : li9.i = i := by simpa [Db.raw] using h
            rw [← this, HRI.out.ex]; decide) (Ec.ttl_yes HRI.out kb hb)
          rw [hl8] at this
          exact this)
      rw [hw15, hB14, hl14]
      clear hw15 hB14 hR15 hb15
      go_upto_region 16 with (go_at_call 13; refine HDT.out.mono ?_; rintro e w16 ⟨v, a16, c16, ps16, rfl, hrep, hP8, hn8, he8, hb8⟩; obtain ⟨ta, tc, rfl, hfit, hrl⟩ := hrep.parts; have HB16 : Hid (Below w15.heap.size w15 w16) := Lib.hid (((Below.refl _ _).alloc (Nat.le_refl _) _).trans (hb8.mono (by simp))); clear hrep hP8 hn8 he8 hb8 hfit hrl; unfold rv; simp only [Rp.R.k, Rp.R.s, Rp.R.n, Rp.R.l, List.length_nil])
      obtain ⟨B16, hB16⟩ : ∃ B16, w16.heap.size = B16 := ⟨_, rfl⟩
      obtain ⟨w17, hw17⟩ : ∃ w17, w16.alloc (.cells #[.int .i64 3, .string ⟨#[]⟩, .int .i64 9, .slice ta 0 tc] 26) = w17 := ⟨_, rfl⟩
      have hR17 : Rb w17 B16 3 [] 9 ta 0 tc := by rw [← hw17, ← hB16]; exact World.alloc_heap_new _ _
      have hb17 : Below w16.heap.size w16 w17 := by rw [← hw17]; exact (Below.refl _ _).alloc (Nat.le_refl _) _
      have hB1517 : Below w15.heap.size w15 w17 := HB16.out.trans (hb17.mono HB16.out.size)
      obtain ⟨⟨t0, t1, t2, t3⟩, -⟩ := hR17.at
      have ht17 := hR17.lt
      obtain ⟨⟨r0, r1, r2, r3⟩, -⟩ := (HR15.out.later hB1517).at
      have HBW17 : Hid (Below w.heap.size w w17) := Lib.hid ((HBW12.out.trans (HB15.out.mono HBW12.out.size)).trans (hB1517.mono (Nat.le_trans HBW12.out.size HB15.out.size)))
      have HSS : Hid (Calls Tryz.prog 16 #[.slice a14 1 c14, .slice a8 1 c8] w17 fun r W => r = .returned (.bool true) ∧ Below w17.heap.size w17 W) := Lib.hid (by
        have := sameSpace_any a14 c14 ps14 a8 c8 ps8 w17 (HL15.out.later hB1517).hP (HM15.out.later hB1517).hP (by omega) (by omega)
        rw [HL15.out.he, HM15.out.he, hl14, hl8] at this
        rw [show Db.sameS [⟨kb, li9.i⟩] [⟨kb, li9.i⟩] = true by simp [Db.sameS, Db.sameAt, HRI.out.self, List.range_succ]] at this
        exact this)
      rw [hw17, hB16]
      clear hw17 hB16 hR17 hb17 hB1517
      go_wp2_with (first | (go_at_call 16; refine HSS.out.mono ?_; rintro e w18 ⟨rfl, hb18⟩; have t2b := (hb18.cell (p := ⟨B16, 2, none⟩) ht17).trans t2; have HB18 := Lib.hid hb18; clear hb18) | (go_at_call 8; refine (HAW.out _).mono ?_; rintro e w19 ⟨rfl, hb19⟩; have HB19 := Lib.hid hb19; clear hb19))
      go_ret
      exact ⟨rfl, (HBW17.out.trans (HB18.out.mono HBW17.out.size)).trans (HB19.out.mono (Nat.le_trans HBW17.out.size HB18.out.size))⟩
end Go.Proofs.YtokcbcjonbjkgaaGreatDoor
