/- The contract of begin of the program's exec. -/
import Derived.Test.YtokcbcjonbjkgaaGreatDoorEcCall
import Derived.Test.YtokcbcjonbjkgaaGreatDoorEcContains
import Derived.Test.YtokcbcjonbjkgaaGreatDoorCmCalls
import Derived.Test.YtokcbcjonbjkgaaGreatDoorSpcRaw
import Derived.Test.YtokcbcjonbjkgaaGreatDoorItAlive0
import Derived.Carry
import Derived.WideLaws
namespace Go.Proofs.YtokcbcjonbjkgaaGreatDoor
open Go.RowKit Go.Shelf
attribute [local go_sem] Oper.semAt_some
set_option linter.unusedVariables false
set_option linter.unusedSimpArgs false

theorem once_snoc : ∀ (l acc : List (List UInt8)) (k : List UInt8), Ec.once acc (l ++ [k]) = if k ∈ Ec.once acc l then Ec.once acc l else Ec.once acc l ++ [k]
  | [], acc, k => by by_cases h : k ∈ acc <;> simp [Ec.once, h]
  | x :: l, acc, k => by
    simp only [List.cons_append, Ec.once]
    split
    · exact once_snoc l acc k
    · exact once_snoc l _ k
theorem once_len : ∀ (l acc : List (List UInt8)), (Ec.once acc l).length ≤ acc.length + l.length
  | [], acc => by simp [Ec.once]
  | x :: l, acc => by
    simp only [Ec.once, List.length_cons]
    split
    · have := once_len l acc; omega
    · have := once_len l (acc ++ [x]); simp at this; omega
/-- what begin has done with so many keys. -/
structure BgS (db : List Db.P) (p mb mi : Nat) (aW : Option Addr) (cW : Nat) (ws : List (List UInt8)) (now : Int) (n : Nat) (ks : List (List UInt8)) (c : Cl) : Prop where
  e1 : c.p = p ∧ c.mb = mb ∧ c.mi = mi ∧ c.aW = aW ∧ c.cW = cW ∧ c.ws = ws
  e2 : c.now = now ∧ c.kind = 0 ∧ c.nv = .slice none 0 0 ∧ c.ns = [] ∧ c.inv = false
  e3 : c.ks = Ec.once [] ks
  e4 : ∀ k, c.bf.i k = Ec.before db c.ks k
  e5 : ∀ k, c.it.i k = Ec.live now (Ec.before db c.ks) k
  e6 : c.nb ≤ n ∧ c.ni ≤ n
  e7 : c.rs = []
/-- what begin tells. -/
def BgOut (db : List Db.P) (aW : Option Addr) (cW : Nat) (ws : List (List UInt8)) (now : Int) (w : World) (e : Ending) (W : World) : Prop :=
  ∃ c p mb mi, e = .returned (.pointer (some ⟨p, 0, none⟩)) ∧ c.At w W ∧ BgS db p mb mi aW cW ws now 1000 (Cm.keysOf ws) c

theorem live_none {now : Int} {f : Ec.M} {k : List UInt8} (h : f k = none) : Ec.live now f k = none := by simp [Ec.live, h]
theorem live_some {now : Int} {f : Ec.M} {k : List UInt8} {i : It.I} (h : f k = some i) : Ec.live now f k = if It.aliveB i now then some i else none := by simp [Ec.live, h]
theorem before_new {db : List Db.P} {ks : List (List UInt8)} {key : List UInt8} (k : List UInt8) : Ec.before db (ks ++ [key]) k = if k = key then Db.raw db key else Ec.before db ks k := by
  unfold Ec.before
  by_cases h : k = key
  · subst h; simp
  · simp [h]
theorem updI_i (f : ML) (key : List UInt8) (v : Option Li) (k : List UInt8) : (ML.v fun x => if x = key then v else f x) k = updI f.v key (v.map Li.v) k := by
  unfold ML.v updI
  by_cases h : k = key <;> simp [h]
theorem rawL_p' (ps : List Lp) (k : List UInt8) : (rawL ps k).map Li.i = Db.raw (ps.map Lp.p) k := by
  unfold rawL Db.raw
  rw [List.find?_map, Option.map_map, Option.map_map]
  rfl
/-- the call as begin makes it. -/
def c00 (w : World) (p : Nat) (aW : Option Addr) (cW : Nat) (ws : List (List UInt8)) (now : Int) : Cl := ⟨p, w.heap.size, w.heap.size + 1, aW, cW, ws, now, 0, .slice none 0 0, [], .slice none 0 0, [], 0, 0, fun _ => none, fun _ => none, false, []⟩
theorem c00_at (w : World) (aW : Option Addr) (cW : Nat) (ws : List (List UInt8)) (now : Int) (hW : Wds w aW cW ws) (hwo : ∀ b o, aW = some ⟨b, o, none⟩ → ws ≠ [] → b < w.heap.size) (hwl : ws.length ≤ 1000 ∧ ∀ s ∈ ws, s.length ≤ 1000000) (hnow : 0 ≤ now ∧ now ≤ 4611686018427387904) :
    (c00 w (w.heap.size + 1 + 1) aW cW ws now).At w (((w.alloc (.map #[] 0)).alloc (.map #[] 0)).alloc (.cells #[.slice aW ws.length cW, .int .i64 now, .int .i64 0, .slice none 0 0, .slice none 0 0, .map (some w.heap.size), .map (some (w.heap.size + 1)), .bool false] 84)) := by
  have hb : Below w.heap.size w (((w.alloc (.map #[] 0)).alloc (.map #[] 0)).alloc (.cells #[.slice aW ws.length cW, .int .i64 now, .int .i64 0, .slice none 0 0, .slice none 0 0, .map (some w.heap.size), .map (some (w.heap.size + 1)), .bool false] 84)) := (((Below.refl _ w).alloc (Nat.le_refl _) _).alloc (by simp) _).alloc (by simp; omega) _
  have m1 := (MapI.made w).alloc (.map #[] 0)
  have m2 := MapI.made (w.alloc (.map #[] 0))
  rw [World.size_alloc] at m2
  exact {
    hp := by
      have := World.alloc_heap_new ((w.alloc (.map #[] 0)).alloc (.map #[] 0)) (.cells #[.slice aW ws.length cW, .int .i64 now, .int .i64 0, .slice none 0 0, .slice none 0 0, .map (some w.heap.size), .map (some (w.heap.size + 1)), .bool false] 84)
      rwa [World.size_alloc, World.size_alloc] at this
    hb := m1.alloc _
    hi := m2.alloc _
    hne := by simp [c00]
    hW := hW.later hb
    hWo := hwo
    hn := World.ownsRow_nil _ _ _ _
    hk := World.ownsRow_nil _ _ _ _
    kb := fun k i e => by cases e
    ki := fun k i e => by cases e
    low := by simp [c00]; omega
    bel := hb
    wsl := hwl
    ksl := ⟨by simp [c00], by simp [c00]⟩
    nsl := by simp [c00]
    siz := by simp [c00]
    rsl := fun g hg => by cases hg
    fit := ⟨by show _ ≤ now; omega, hnow.2⟩ }
theorem BgS.same {db : List Db.P} {p mb mi : Nat} {aW : Option Addr} {cW : Nat} {ws : List (List UInt8)} {now : Int} {n : Nat} {l : List (List UInt8)} {c : Cl} (h : BgS db p mb mi aW cW ws now n l c) {key : List UInt8} (hm : key ∈ c.ks) : BgS db p mb mi aW cW ws now (n + 1) (l ++ [key]) c :=
  ⟨h.e1, h.e2, by rw [once_snoc, ← h.e3, if_pos hm], h.e4, h.e5, by have := h.e6; omega, h.e7⟩
theorem BgS.add_none {db : List Db.P} {p mb mi : Nat} {aW : Option Addr} {cW : Nat} {ws : List (List UInt8)} {now : Int} {n : Nat} {l : List (List UInt8)} {c : Cl} (h : BgS db p mb mi aW cW ws now n l c) {key : List UInt8} (hm : key ∉ c.ks) (hr : Db.raw db key = none) (v : Value) :
    BgS db p mb mi aW cW ws now (n + 1) (l ++ [key]) { c with kv := v, ks := c.ks ++ [key] } := by
  have hbn : ∀ k, Ec.before db (c.ks ++ [key]) k = Ec.before db c.ks k := fun k => by
    rw [before_new]
    split
    · rename_i e; subst e; rw [hr]; simp [Ec.before, hm]
    · rfl
  exact ⟨h.e1, h.e2, by rw [once_snoc, ← h.e3, if_neg hm], fun k => (h.e4 k).trans (hbn k).symm, fun k => (h.e5 k).trans (by rw [show Ec.before db (c.ks ++ [key]) = Ec.before db c.ks from funext hbn]), by have := h.e6; exact ⟨by show c.nb ≤ _; omega, by show c.ni ≤ _; omega⟩, h.e7⟩
theorem BgS.add_dead {db : List Db.P} {p mb mi : Nat} {aW : Option Addr} {cW : Nat} {ws : List (List UInt8)} {now : Int} {n : Nat} {l : List (List UInt8)} {c : Cl} (h : BgS db p mb mi aW cW ws now n l c) {key : List UInt8} (hm : key ∉ c.ks) {i : Li} (hr : Db.raw db key = some i.i) (hd : It.aliveB i.i now = false) (v : Value) :
    BgS db p mb mi aW cW ws now (n + 1) (l ++ [key]) { c with kv := v, ks := c.ks ++ [key], bf := fun x => if x = key then some i else c.bf x, nb := c.nb + 1 } := by
  refine ⟨h.e1, h.e2, by rw [once_snoc, ← h.e3, if_neg hm], fun k => ?_, fun k => ?_, by have := h.e6; exact ⟨by show c.nb + 1 ≤ _; omega, by show c.ni ≤ _; omega⟩, h.e7⟩
  · show (if k = key then some i else c.bf k).map Li.i = Ec.before db (c.ks ++ [key]) k
    rw [before_new]
    split
    · exact hr.symm
    · exact h.e4 k
  · show c.it.i k = _
    rw [h.e5]
    unfold Ec.live
    rw [before_new]
    by_cases e : k = key
    · subst e
      rw [if_pos rfl, hr]
      simp [Ec.before, hm, hd]
    · rw [if_neg e]
theorem BgS.add_live {db : List Db.P} {p mb mi : Nat} {aW : Option Addr} {cW : Nat} {ws : List (List UInt8)} {now : Int} {n : Nat} {l : List (List UInt8)} {c : Cl} (h : BgS db p mb mi aW cW ws now n l c) {key : List UInt8} (hm : key ∉ c.ks) {i : Li} (hr : Db.raw db key = some i.i) (hd : It.aliveB i.i now = true) (v : Value) :
    BgS db p mb mi aW cW ws now (n + 1) (l ++ [key]) { c with kv := v, ks := c.ks ++ [key], bf := fun x => if x = key then some i else c.bf x, nb := c.nb + 1, it := fun x => if x = key then some i else c.it x, ni := c.ni + 1 } := by
  refine ⟨h.e1, h.e2, by rw [once_snoc, ← h.e3, if_neg hm], fun k => ?_, fun k => ?_, by have := h.e6; exact ⟨by show c.nb + 1 ≤ _; omega, by show c.ni + 1 ≤ _; omega⟩, h.e7⟩
  · show (if k = key then some i else c.bf k).map Li.i = Ec.before db (c.ks ++ [key]) k
    rw [before_new]
    split
    · exact hr.symm
    · exact h.e4 k
  · show (if k = key then some i else c.it k).map Li.i = _
    unfold Ec.live
    rw [before_new]
    by_cases e : k = key
    · subst e
      rw [if_pos rfl, if_pos rfl, hr]
      simp [hd]
    · rw [if_neg e, if_neg e]
      exact h.e5 k
/-- what the loop keeps of what lay. -/
def BgK (p mb mi : Nat) (wk : World) (W : World) : Prop := Keeps (fun k => k < wk.heap.size ∧ k ≠ p ∧ k ≠ mb ∧ k ≠ mi) wk W
theorem words_not {w W : World} {c : Cl} (h : c.At w W) {a : Option Addr} {cap : Nat} {ks : List (List UInt8)} (hW : Wds W a cap ks) : ∀ b o, a = some ⟨b, o, none⟩ → ks ≠ [] → b ≠ c.p ∧ b ≠ c.mb ∧ b ≠ c.mi := by
  intro b o e h0
  obtain ⟨b', o', e', hlt, hc⟩ := hW.get (List.length_pos_iff.2 h0)
  rw [e] at e'
  cases e'
  have h1 := hc 0 (List.length_pos_iff.2 h0)
  refine ⟨fun e => ?_, fun e => ?_, fun e => ?_⟩
  · subst e
    have h2 := h.hp
    simp only [World.cell?, h2] at h1
    obtain ⟨hcell, -⟩ := h.cell
    rcases Nat.lt_or_ge (o + 0) 8 with h8 | h8
    · have h9 : o + 0 = 0 ∨ o + 0 = 1 ∨ o + 0 = 2 ∨ o + 0 = 3 ∨ o + 0 = 4 ∨ o + 0 = 5 ∨ o + 0 = 6 ∨ o + 0 = 7 := by omega
      have hnk : ∀ {v : Value} {n : Nat} {xs : List Value} {t : TypeId} {base : Nat}, W.ownsRow base t 1 v n xs → ∀ s, v ≠ .string s := fun ho s e => by
        obtain ⟨_, ho⟩ := ho
        rcases ho with ⟨ho, -⟩ | ⟨_, _, _, ho, -⟩ <;> rw [ho] at e <;> cases e
      rcases h9 with h9 | h9 | h9 | h9 | h9 | h9 | h9 | h9 <;> rw [h9] at h1 <;> simp [Cl.cells] at h1
      · exact hnk h.hn _ h1
      · exact hnk h.hk _ h1
    · simp [Cl.cells] at h1
      rw [List.getElem?_eq_none (by simp at h8 ⊢; exact h8)] at h1
      cases h1
  · subst e
    obtain ⟨es, cl, hg⟩ := h.hb.obj
    simp [World.cell?, hg] at h1
  · subst e
    obtain ⟨es, cl, hg⟩ := h.hi.obj
    simp [World.cell?, hg] at h1

set_option maxRecDepth 100000 in
set_option maxHeartbeats 8000000 in
theorem begin_any (a : Option Addr) (cap : Nat) (ps : List Lp) (aW : Option Addr) (cW : Nat) (ws : List (List UInt8)) (now : Int) (w : World) (hP : Prs w a cap ps) (hn : ps.length ≤ 1000000) (hu : AscL ps) (hsm : ∀ p ∈ ps, p.p.Sm)
    (hW : Wds w aW cW ws) (hwl : ws.length ≤ 1000 ∧ ∀ s ∈ ws, s.length ≤ 1000000) (hkl : (Cm.keysOf ws).length ≤ 1000 ∧ ∀ s ∈ Cm.keysOf ws, s.length ≤ 1000000) (hnow : 0 ≤ now ∧ now ≤ 4611686018427387904) :
    Calls Tryz.prog 19 #[.slice a ps.length cap, .slice aW ws.length cW, .int .i64 now] w (BgOut (ps.map Lp.p) aW cW ws now w) := by
  have hmm := @run_makeMap Tryz.prog
  have HP := Lib.hid hP
  have HU := Lib.hid hu
  have HSM := Lib.hid hsm
  have HW := Lib.hid hW
  have HWL := Lib.hid hwl
  have HKL := Lib.hid hkl
  have HNOW := Lib.hid hnow
  have hwo : ∀ b o, aW = some ⟨b, o, none⟩ → ws ≠ [] → b < w.heap.size := fun b o e h0 => by
    obtain ⟨b', o', e', hlt, -⟩ := hW.get (List.length_pos_iff.2 h0)
    rw [e] at e'
    cases e'
    exact hlt
  have HWO := Lib.hid hwo
  clear hP hu hsm hW hwo
  obtain ⟨iS, hiS, hiS0, hiS1, hiS2⟩ := info_parts (show (Tryz.prog.info? 9).map (fun i => (i.zero, i.size, i.bytes)) = some (some (.string ⟨#[]⟩), 1, 16) by kernel_rfl)
  have hA0 := c00_at w aW cW ws now HW.out HWO.out HWL.out HNOW.out
  obtain ⟨p, hp⟩ : ∃ p, w.heap.size + 1 + 1 = p := ⟨_, rfl⟩
  obtain ⟨mb, hmb⟩ : ∃ mb, w.heap.size = mb := ⟨_, rfl⟩
  obtain ⟨mi, hmi⟩ : ∃ mi, w.heap.size + 1 = mi := ⟨_, rfl⟩
  obtain ⟨w3, hw3⟩ : ∃ w3, ((w.alloc (.map #[] 0)).alloc (.map #[] 0)).alloc (.cells #[.slice aW ws.length cW, .int .i64 now, .int .i64 0, .slice none 0 0, .slice none 0 0, .map (some w.heap.size), .map (some (w.heap.size + 1)), .bool false] 84) = w3 := ⟨_, rfl⟩
  have HW3 := Lib.hid hw3
  rw [hw3] at hA0
  have HA0 := Lib.hid hA0
  have HPE := Lib.hid hp
  have HMB := Lib.hid hmb
  have HMI := Lib.hid hmi
  clear hw3 hA0 hp hmb hmi
  obtain ⟨KS, hKS⟩ : ∃ KS, Cm.keysOf ws = KS := ⟨_, rfl⟩
  have HKY := Lib.hid (fun W (h : Wds W aW cW ws) => keys_c aW cW ws W h)
  rw [hKS] at HKY HKL
  have HKS := Lib.hid hKS
  clear hKS
  go_enter Tryz.func19, Tryz.ntmps19
  go_wp2_with fail
  rw [HW3.out, HPE.out]
  refine (HKY.out w3 HA0.out.hW).mono ?_
  rintro e wk ⟨ak, ck, rfl, hwk, hbk⟩
  have hAk := HA0.out.later hbk
  have HNT : Hid (∀ b o, ak = some ⟨b, o, none⟩ → KS ≠ [] → b ≠ p ∧ b ≠ mb ∧ b ≠ mi) := Lib.hid fun b o e h0 => by
    have h := words_not hAk hwk b o e h0
    exact ⟨fun e => h.1 (e.trans HPE.out.symm), fun e => h.2.1 (e.trans HMB.out.symm), fun e => h.2.2 (e.trans HMI.out.symm)⟩
  have HWK := Lib.hid hwk
  have hK0 : BgK p mb mi wk wk := Keeps.refl _ _
  have HAk := Lib.hid hAk
  have hKl : KS.length ≤ 1000 := HKL.out.1
  have hKI : (KS.length : Int) ≤ 1000 := by omega
  clear hwk hbk hAk hmm
  go_wp2
  go_loopw [9, 10, 11, 21] (fun _ _ _ i wr => ∃ n : Nat, n ≤ KS.length ∧ i = .int .i64 n ∧ Hid (∃ c, BgS (ps.map Lp.p) p mb mi aW cW ws now n (KS.take n) c ∧ c.At w wr ∧ BgK p mb mi wk wr ∧ ∀ g, c.kv.ownBlock = some g → wk.heap.size ≤ g)) (fun _ _ _ i _ => KS.length - (intOf i).toNat)
  case atStart =>
    refine ⟨0, Nat.zero_le _, rfl, Lib.hid ⟨_, ⟨⟨HPE.out, HMB.out, HMI.out, rfl, rfl, rfl⟩, ⟨rfl, rfl, rfl, rfl, rfl⟩, rfl, fun k => ?_, fun k => ?_, ⟨Nat.zero_le _, Nat.zero_le _⟩, rfl⟩, HAk.out, hK0, fun g e => by cases e⟩⟩
    · simp [ML.i, c00, Ec.before]
    · simp [ML.i, c00, Ec.before, Ec.live]
  case round =>
    obtain ⟨n, hn', rfl, HI⟩ := hrel
    by_cases hlt : n < KS.length
    · obtain ⟨c, hS, hA, hKp, hKv⟩ := HI.out
      obtain ⟨e1, e2, e3, -, -, -⟩ := hS.e1
      have hKW : Wds wr ak ck KS := HWK.out.grown (fun h0 b off e hlt => hKp.block b hlt ⟨hlt, HNT.out b off e h0⟩) hKp.size
      obtain ⟨bk, ok, hak, hbk, hck⟩ := hKW.get (by omega)
      have HAK := Lib.hid hak
      subst hak
      have qk := hck n hlt
      have HX : Hid (KS.take (n + 1) = KS.take n ++ [KS.getD n []]) := Lib.hid (by rw [List.take_succ_eq_append_getElem hlt]; congr 2; simp [List.getD, hlt])
      have hkey : (KS.getD n []).length ≤ 1000000 := HKL.out.2 _ (by simp [List.getD, hlt])
      obtain ⟨key, hky⟩ : ∃ key, KS.getD n [] = key := ⟨_, rfl⟩
      rw [hky] at qk HX hkey
      have HKE := Lib.hid hky
      clear hky hck hKW
      have hpl : p < wr.heap.size := e1 ▸ hA.lt.1
      obtain ⟨-, -, -, -, q4, q5, q6, -⟩ := hA.cell
      rw [e1] at q4 q5 q6
      rw [e2] at q5
      rw [e3] at q6
      obtain ⟨ka, kc, hkv, hkw, -⟩ := wds_of_row (ws := c.ks) hA.hk (fun s hs => by have := hA.ksl.2 s hs; omega)
      have hf4 : wr.frozen? ⟨p, 4, none⟩ = false := by rw [← e1]; exact hA.free 4 (by omega)
      have hksn := hA.ksl.1
      have k0 : (0 : Int) ≤ (n : Int) := by omega
      have k1 : (n : Int) < (KS.length : Int) := by omega
      have HCN := Lib.hid (contains_any ka kc c.ks key wr hkw (by omega))
      have HKV := Lib.hid hkv
      rw [hkv] at q4
      have HS := Lib.hid hS
      have HA := Lib.hid hA
      have HKp := Lib.hid hKp
      have HKv := Lib.hid hKv
      have HE := Lib.hid (And.intro e1 (And.intro e2 e3))
      clear hS hA hKp hKv hkw hkv e1 e2 e3 HI
      by_cases hmem : key ∈ c.ks
      · have HCN2 := HCN
        rw [decide_eq_true hmem] at HCN2
        have HMEM := Lib.hid hmem
        clear hmem HCN
        go_wp2_with (go_at_call 28; refine HCN2.out.mono ?_; rintro e w1 ⟨rfl, rfl⟩)
        go_roundw
        case rel => exact ⟨n + 1, by omega, by go_num, Lib.hid ⟨c, by rw [HX.out]; exact HS.out.same HMEM.out, HA.out, HKp.out, HKv.out⟩⟩
        case measure => simp [intOf]; omega
      · have HCN2 := HCN
        rw [decide_eq_false hmem] at HCN2
        have HMEM := Lib.hid hmem
        have hksn2 : c.ks.length < 1000 := by
          have := once_len (KS.take n) []
          rw [← HS.out.e3] at this
          simp at this
          omega
        have happ : ∀ (g cap3 : Nat) (w4 : World), w4.ownsRow w.heap.size 9 1 (.slice (some ⟨g, 0, none⟩) (c.ks.length + 1) cap3) (c.ks.length + 1) (wcells c.ks ++ [.string ⟨key.toArray⟩]) → (wr.alloc (.cells #[.string ⟨key.toArray⟩] 9)).grownBy w4 (Value.slice ka c.ks.length kc).ownBlock → ((Value.slice ka c.ks.length kc).ownBlock = some g ∨ g = (wr.alloc (.cells #[.string ⟨key.toArray⟩] 9)).heap.size) →
            w4.cell? ⟨p, 4, none⟩ = some (.slice ka c.ks.length kc) ∧ w4.frozen? ⟨p, 4, none⟩ = false ∧ Hid (({ c with kv := .slice (some ⟨g, 0, none⟩) (c.ks.length + 1) cap3, ks := c.ks ++ [key] } : Cl).At w (w4.setCell ⟨p, 4, none⟩ (.slice (some ⟨g, 0, none⟩) (c.ks.length + 1) cap3))) ∧ Hid (wk.heap.size ≤ g) ∧ Hid (BgK p mb mi wk w4) := by
          intro g cap3 w4 hown hgrow hat
          rw [← HKV.out] at hgrow hat
          have hk4 : Keeps (fun k => c.kv.ownBlock ≠ some k) wr w4 := ((Keeps.refl _ wr).alloc _).trans (Keeps.of_grown hgrow fun r e h => h e)
          have hkp : c.kv.ownBlock ≠ some p := by rw [← HE.out.1]; exact HA.out.kne.1
          have t4 := (hk4.cell (p := ⟨p, 4, none⟩) hpl hkp).trans q4
          have tf := (hk4.frozen (p := ⟨p, 4, none⟩) hpl hkp).trans hf4
          have hA2 := HA.out.addKey hown hgrow hat hksn2 hkey
          refine ⟨t4, tf, Lib.hid (by obtain ⟨rfl, -⟩ := HE.out; exact hA2), Lib.hid ?_, Lib.hid (HKp.out.transIn hk4 fun j hj h e => by have := HKv.out j e; omega)⟩
          rcases hat with hat | hat
          · exact HKv.out g hat
          · rw [World.size_alloc] at hat
            have := HKp.out.size
            omega
        have HAP := Lib.hid happ
        clear happ
        clear hmem HCN
        go_wp2_with (first
          | (go_at_call 28; refine HCN2.out.mono ?_; rintro e w1 ⟨rfl, rfl⟩)
          | (at_builtin; refine wpList_append_lies _ rfl (.tmp 35) (.tmp 37) 31 rfl w.heap.size 9 iS _ 1 16 Tryz.underlying31 hiS hiS0 hiS1 hiS2 rfl (by decide) (.slice ka c.ks.length kc) c.ks.length (wcells c.ks) rfl (by rw [← HKV.out]; exact HA.out.hk.alloc _) ⟨wr.heap.size, 0, none⟩ 1 1 [.string ⟨key.toArray⟩] rfl rfl (row_news wr _ rfl _ _) (by simp [Value.oneCell']) (by decide) (by unfold maxLen; omega) (by omega) (by have := HA.out.bel.size; simp; omega) _ rfl ?_
             intro g cap3 w4 hown hgrow hat hl4
             obtain ⟨t4, tf, HA2, HG, HK4⟩ := HAP.out g cap3 w4 hown hgrow hat
             clear hown hgrow hat))
        obtain ⟨w5, hw5⟩ : ∃ w5, w4.setCell ⟨p, 4, none⟩ (.slice (some ⟨g, 0, none⟩) (c.ks.length + 1) cap3) = w5 := ⟨_, rfl⟩
        rw [hw5] at HA2 ⊢
        have HK5 : Hid (BgK p mb mi wk w5) := Lib.hid (by rw [← hw5]; exact Keeps.setCell (p := ⟨p, 4, none⟩) HK4.out (.inr fun h => h.2.1 rfl) _)
        clear hw5 t4 tf q4 q5 q6 hf4
        refine (spraw_any a cap ps key w5 (HP.out.later (HA2.out.bel)) hn HU.out HSM.out).mono ?_
        rintro e w6 ⟨o, rfl, ho, hok, hb6, hfar⟩
        have hA6 := HA2.out.later hb6
        have HK6 : Hid (BgK p mb mi wk w6) := Lib.hid (Keeps.trans HK5.out (Keeps.of_below hb6 fun k _ h => by have := HK5.out.size; omega))
        have hraw : o.map Li.i = Db.raw (ps.map Lp.p) key := ho.trans (rawL_p' ps key)
        have hsmo : ∀ i, o = some i → i.i.Sm := fun i e => by
          subst e
          have : (rawL ps key).map Li.i = some i.i := ho.symm
          obtain ⟨l, hl1, hl2⟩ := Option.map_eq_some_iff.1 this
          rw [← hl2]
          unfold rawL at hl1
          obtain ⟨q, hq1, hq2⟩ := Option.map_eq_some_iff.1 hl1
          rw [← hq2]
          exact (HSM.out q (List.mem_of_find?_eq_some hq1)).2
        have hoff : ∀ i, o = some i → i.Ok w6 ∧ ∀ g, g < w5.heap.size → i.Far (some g) := fun i e => by
          subst e
          exact ⟨hok, fun g hg => hfar (some g) fun g' e => by cases e; exact hg⟩
        have HA6 := Lib.hid hA6
        have HRAW := Lib.hid hraw
        have HSMO := Lib.hid hsmo
        have HOFF := Lib.hid hoff
        clear hA6 hraw hsmo hoff ho hok hfar hb6
        unfold gotT
        cases o with
        | none =>
          simp only [Option.getD_none, Option.isSome_none, Li.zero]
          go_wp2
          go_roundw
          case rel => exact ⟨n + 1, by omega, by go_num, Lib.hid ⟨_, by rw [HX.out]; exact HS.out.add_none HMEM.out HRAW.out.symm _, HA6.out.later ((Below.refl _ _).alloc (Nat.le_refl _) _), Keeps.alloc HK6.out _, fun g' e => by cases e; exact HG.out⟩⟩
          case measure => simp [intOf]; omega
        | some li =>
          obtain ⟨k, s, aF, fs, cF, aL, ls, cL, x⟩ := li
          simp only [Option.getD_some, Option.isSome_some]
          go_upto_region 9 with (fail)
          obtain ⟨HOK, HFR⟩ : Hid ((⟨k, s, aF, fs, cF, aL, ls, cL, x⟩ : Li).Ok w6) ∧ Hid (∀ g, g < w5.heap.size → (⟨k, s, aF, fs, cF, aL, ls, cL, x⟩ : Li).Far (some g)) := ⟨Lib.hid (HOFF.out _ rfl).1, Lib.hid (HOFF.out _ rfl).2⟩
          obtain ⟨wq, hwq⟩ : ∃ wq, w6.alloc (.cells #[.int .i64 k, .string ⟨s.toArray⟩, .slice aF fs.length cF, .slice aL ls.length cL, .int .i64 x] 38) = wq := ⟨_, rfl⟩
          have hxb : ItBox wq w6.heap.size k s aF fs.length cF aL ls.length cL x := by rw [← hwq]; exact ItBox.new w6 k s aF fs.length cF aL ls.length cL x
          have hbq : Below w6.heap.size w6 wq := by rw [← hwq]; exact (Below.refl _ _).alloc (Nat.le_refl _) _
          have HAQ := Lib.hid (HA6.out.later hbq)
          have HKQ : Hid (BgK p mb mi wk wq) := Lib.hid (by rw [← hwq]; exact Keeps.alloc HK6.out _)
          have HOKQ := Lib.hid (HOK.out.later hbq)
          rw [hwq]
          obtain ⟨B, hB⟩ : ∃ B, w6.heap.size = B := ⟨_, rfl⟩
          rw [hB] at hxb ⊢
          have hBm : p < B ∧ mb < B ∧ mi < B := by
            have h := HA6.out.lt
            obtain ⟨e1, e2, e3⟩ := HE.out
            rw [← e1, ← e2, ← e3, ← hB]
            exact h
          clear hwq hbq HA6 HK6 HOK
          obtain ⟨c2, hc2⟩ : ∃ c2 : Cl, ({ c with kv := .slice (some ⟨g, 0, none⟩) (c.ks.length + 1) cap3, ks := c.ks ++ [key] } : Cl) = c2 := ⟨_, rfl⟩
          rw [hc2] at HAQ HA2
          have HC2 := Lib.hid hc2
          clear hc2
          have hE2 : c2.p = p ∧ c2.mb = mb ∧ c2.mi = mi := by rw [← HC2.out]; exact HE.out
          have HE2 := Lib.hid hE2
          obtain ⟨-, -, -, -, -, q5, q6, -⟩ := HAQ.out.cell
          rw [hE2.1, hE2.2.1] at q5
          rw [hE2.1, hE2.2.2] at q6
          have HMB2 : Hid (MapI wq mb c2.nb c2.bf.v) := Lib.hid (hE2.2.1 ▸ HAQ.out.hb)
          have HN2 : Hid (c2.nb ≤ n ∧ c2.ni ≤ n) := Lib.hid (by rw [← HC2.out]; exact HS.out.e6)
          have hpmb : p ≠ mb := by rw [← hE2.1, ← hE2.2.1]; exact HAQ.out.ne.1
          have hpmi : p ≠ mi := by rw [← hE2.1, ← hE2.2.2]; exact HAQ.out.ne.2
          have hmne : mb ≠ mi := by rw [← hE2.2.1, ← hE2.2.2]; exact HAQ.out.hne
          have hBmb : B ≠ mb := by omega
          have hBmi : B ≠ mi := by omega
          have hplwq : p < wq.heap.size := by rw [← hE2.1]; exact HAQ.out.lt.1
          have hBlwq := hxb.lt
          obtain ⟨x0wq, x1wq, x2wq, x3wq, x4wq⟩ := hxb.at
          clear hE2
          go_wp2
          have HS0 : Keeps (fun k => k ≠ mb) wq wq.drew := (Keeps.refl _ wq).drew
          refine wp_region_L (S := fun W => Keeps (fun k => k ≠ mb) wq W) (f := 7) (by kernel_rfl) ?_
          refine wpAnyL_take (i := 0) (some 49) (v := .pointer (some ⟨p, 0, none⟩)) rfl rfl (by kernel_rfl) (by kernel_rfl) (by kernel_rfl) (by kernel_rfl) (fun _ _ _ h => h) (by rfl) (fun W hS => ?_) HS0 ?_
          · go_simp
          try simp only [Act.put, List.setIfInBounds_toArray, List.set_cons_zero, List.set_cons_succ]
          refine wpAnyL_take (i := 1) (some 50) (v := .pointer (some ⟨p, 0, none⟩)) rfl rfl (by kernel_rfl) (by kernel_rfl) (by kernel_rfl) (by kernel_rfl) (fun _ _ _ h => h) (by rfl) (fun W hS => ?_) HS0 ?_
          · go_simp
          try simp only [Act.put, List.setIfInBounds_toArray, List.set_cons_zero, List.set_cons_succ]
          refine wpAnyL_take (i := 2) (some 51) (v := .pointer (some ⟨p, 5, none⟩)) rfl rfl (by kernel_rfl) (by kernel_rfl) (by kernel_rfl) (by kernel_rfl) (fun _ _ _ h => h) (by rfl) (fun W hS => ?_) HS0 ?_
          · go_simp
          try simp only [Act.put, List.setIfInBounds_toArray, List.set_cons_zero, List.set_cons_succ]
          refine wpAnyL_take (i := 3) (some 52) (v := .map (some mb)) rfl rfl (by kernel_rfl) (by kernel_rfl) (by kernel_rfl) (by kernel_rfl) (fun _ _ _ h => h) (by rfl) (fun W hS => ?_) HS0 ?_
          · have m0 := (hS.cell (p := ⟨p, 5, none⟩) hplwq hpmb).trans q5
            go_simp
          try simp only [Act.put, List.setIfInBounds_toArray, List.set_cons_zero, List.set_cons_succ]
          refine wpAnyL_take (i := 4) (some 53) (v := .string ⟨key.toArray⟩) rfl rfl (by kernel_rfl) (by kernel_rfl) (by kernel_rfl) (by kernel_rfl) (fun _ _ _ h => h) (by rfl) (fun W hS => ?_) HS0 ?_
          · go_simp
          try simp only [Act.put, List.setIfInBounds_toArray, List.set_cons_zero, List.set_cons_succ]
          refine wpAnyL_one (j := 5) (by kernel_rfl) rfl (by rfl) (fun K hK => ?_)
          go_simp
          refine hK _ _ (fun _ => HS0) ?_
          clear hK K
          try simp only [Act.put, List.setIfInBounds_toArray, List.set_cons_zero, List.set_cons_succ]
          refine wpAnyL_one (j := 6) (by kernel_rfl) rfl (by rfl) (fun K hK => ?_)
          refine wp_putI _ (.tmp 52) (.tmp 53) (.tmp 54) rfl mb c2.nb c2.bf.v rfl HMB2.out.drew (by have := HN2.out; omega) key (.agg #[.int .i64 k, .string ⟨s.toArray⟩, .slice aF fs.length cF, .slice aL ls.length cL, .int .i64 x]) rfl rfl hkey ?_
          intro wwq hmwq hkwq
          refine hK _ _ (fun _ => HS0.trans hkwq) ?_
          clear hK K
          try simp only [Act.put, List.setIfInBounds_toArray, List.set_cons_zero, List.set_cons_succ]
          refine wpAnyL_done (by kernel_rfl) ?_ _
          have hmw : MapI wwq mb (c2.nb + 1) (ML.v fun y => if y = key then some ⟨k, s, aF, fs, cF, aL, ls, cL, x⟩ else c2.bf y) := hmwq.ext fun y => (updI_i c2.bf key (some ⟨k, s, aF, fs, cF, aL, ls, cL, x⟩) y).symm
          have hkw : Keeps (fun y => y ≠ mb) wq wwq := HS0.trans hkwq
          have hA3 := HAQ.out.befores (W' := wwq) (by rw [HE2.out.2.1]; exact hkw) (c2.nb + 1) _ (by rw [HE2.out.2.1]; exact hmw) (by have := HN2.out; omega) (fun y i e => by
            by_cases hy : y = key
            · rw [if_pos hy] at e
              cases e
              exact .inr ⟨HOKQ.out, fun y hy => HFR.out y (HA2.out.offl y hy), HSMO.out _ rfl⟩
            · rw [if_neg hy] at e
              exact .inl e)
          have hxb3 : ItBox wwq B k s aF fs.length cF aL ls.length cL x := hkw.heap hxb hBmb
          have HK3 : Hid (BgK p mb mi wk wwq) := Lib.hid (HKQ.out.transIn hkw fun y hy h e => h.2.2.1 e)
          have HA3 := Lib.hid hA3
          have hbz0 : ∀ W, Below wwq.heap.size wwq W → ItBox W B k s aF fs.length cF aL ls.length cL x := fun W hb => (hb.block B hxb3.lt).trans hxb3
          obtain ⟨x0, x1, x2, x3, x4⟩ := hxb3.at
          have HBZ := Lib.hid hbz0
          have HALV := Lib.hid (fun W => alive_any k s aF fs.length cF aL ls.length cL x now W)
          clear hmwq hkwq hmw hA3 hxb3 hbz0 q5 q6 hxb x0wq x1wq x2wq x3wq x4wq HS0 HKQ hkw
          unfold itv at HALV
          cases hal : (decide (x = 0) || decide (now < x)) with
          | false =>
            rw [hal] at HALV
            have HAL := Lib.hid hal
            clear hal
            go_wp2_with (go_at_call 30; refine (HALV.out _).mono ?_; rintro e wz ⟨rfl, hbz⟩; have HBW := Lib.hid hbz; clear hbz)
            go_roundw
            case rel => exact ⟨n + 1, by omega, by go_num, Lib.hid ⟨_, by rw [HX.out, ← HC2.out]; exact HS.out.add_dead HMEM.out HRAW.out.symm HAL.out _, HA3.out.later HBW.out, Keeps.trans HK3.out (Keeps.of_below HBW.out fun y _ h => by have := HK3.out.size; omega), fun g' e => by rw [← HC2.out] at e; cases e; exact HG.out⟩⟩
            case measure => simp [intOf]; omega
          | true =>
            rw [hal] at HALV
            have HAL := Lib.hid hal
            clear hal
            go_wp2_with (go_at_call 30; refine (HALV.out _).mono ?_; rintro e wz ⟨rfl, hbz⟩; have HBW := Lib.hid hbz; clear hbz)
            obtain ⟨c3, hc3⟩ : ∃ c3 : Cl, ({ c2 with bf := fun y => if y = key then some ⟨k, s, aF, fs, cF, aL, ls, cL, x⟩ else c2.bf y, nb := c2.nb + 1 } : Cl) = c3 := ⟨_, rfl⟩
            have HAZ := Lib.hid (HA3.out.later HBW.out)
            rw [hc3] at HAZ
            have HC3 := Lib.hid hc3
            have hE3 : c3.p = p ∧ c3.mb = mb ∧ c3.mi = mi := by rw [← hc3]; exact HE2.out
            clear hc3
            obtain ⟨-, -, -, -, -, -, q6, -⟩ := HAZ.out.cell
            rw [hE3.1, hE3.2.2] at q6
            have HMI3 : Hid (MapI wz mi c3.ni c3.it.v) := Lib.hid (hE3.2.2 ▸ HAZ.out.hi)
            have HN3 : Hid (c3.nb ≤ n + 1 ∧ c3.ni ≤ n) := Lib.hid (by rw [← HC3.out]; exact ⟨Nat.succ_le_succ HN2.out.1, HN2.out.2⟩)
            have hplwz : p < wz.heap.size := by rw [← hE3.1]; exact HAZ.out.lt.1
            have hxbz := HBZ.out wz HBW.out
            have hBlwz := hxbz.lt
            obtain ⟨x0wz, x1wz, x2wz, x3wz, x4wz⟩ := hxbz.at
            have HE3 := Lib.hid hE3
            have HKZ : Hid (BgK p mb mi wk wz) := Lib.hid (Keeps.trans HK3.out (Keeps.of_below HBW.out fun y _ h => by have := HK3.out.size; omega))
            have HOKZ : Hid ((⟨k, s, aF, fs, cF, aL, ls, cL, x⟩ : Li).Ok wz) := Lib.hid (HAZ.out.kb key _ (by rw [← HC3.out]; simp)).1
            have HOFZ : Hid ((⟨k, s, aF, fs, cF, aL, ls, cL, x⟩ : Li).Off c3) := Lib.hid (HAZ.out.kb key _ (by rw [← HC3.out]; simp)).2.1
            clear hE3 x0 x1 x2 x3 x4
            have HS0 : Keeps (fun k => k ≠ mi) wz wz.drew := (Keeps.refl _ wz).drew
            refine wp_region_L (S := fun W => Keeps (fun k => k ≠ mi) wz W) (f := 7) (by kernel_rfl) ?_
            refine wpAnyL_take (i := 0) (some 58) (v := .pointer (some ⟨p, 0, none⟩)) rfl rfl (by kernel_rfl) (by kernel_rfl) (by kernel_rfl) (by kernel_rfl) (fun _ _ _ h => h) (by rfl) (fun W hS => ?_) HS0 ?_
            · go_simp
            try simp only [Act.put, List.setIfInBounds_toArray, List.set_cons_zero, List.set_cons_succ]
            refine wpAnyL_take (i := 1) (some 59) (v := .pointer (some ⟨p, 0, none⟩)) rfl rfl (by kernel_rfl) (by kernel_rfl) (by kernel_rfl) (by kernel_rfl) (fun _ _ _ h => h) (by rfl) (fun W hS => ?_) HS0 ?_
            · go_simp
            try simp only [Act.put, List.setIfInBounds_toArray, List.set_cons_zero, List.set_cons_succ]
            refine wpAnyL_take (i := 2) (some 60) (v := .pointer (some ⟨p, 6, none⟩)) rfl rfl (by kernel_rfl) (by kernel_rfl) (by kernel_rfl) (by kernel_rfl) (fun _ _ _ h => h) (by rfl) (fun W hS => ?_) HS0 ?_
            · go_simp
            try simp only [Act.put, List.setIfInBounds_toArray, List.set_cons_zero, List.set_cons_succ]
            refine wpAnyL_take (i := 3) (some 61) (v := .map (some mi)) rfl rfl (by kernel_rfl) (by kernel_rfl) (by kernel_rfl) (by kernel_rfl) (fun _ _ _ h => h) (by rfl) (fun W hS => ?_) HS0 ?_
            · have m0 := (hS.cell (p := ⟨p, 6, none⟩) hplwz hpmi).trans q6
              go_simp
            try simp only [Act.put, List.setIfInBounds_toArray, List.set_cons_zero, List.set_cons_succ]
            refine wpAnyL_take (i := 4) (some 62) (v := .string ⟨key.toArray⟩) rfl rfl (by kernel_rfl) (by kernel_rfl) (by kernel_rfl) (by kernel_rfl) (fun _ _ _ h => h) (by rfl) (fun W hS => ?_) HS0 ?_
            · go_simp
            try simp only [Act.put, List.setIfInBounds_toArray, List.set_cons_zero, List.set_cons_succ]
            refine wpAnyL_one (j := 5) (by kernel_rfl) rfl (by rfl) (fun K hK => ?_)
            go_simp
            refine hK _ _ (fun _ => HS0) ?_
            clear hK K
            try simp only [Act.put, List.setIfInBounds_toArray, List.set_cons_zero, List.set_cons_succ]
            refine wpAnyL_one (j := 6) (by kernel_rfl) rfl (by rfl) (fun K hK => ?_)
            refine wp_putI _ (.tmp 61) (.tmp 62) (.tmp 63) rfl mi c3.ni c3.it.v rfl HMI3.out.drew (by have := HN3.out; omega) key (.agg #[.int .i64 k, .string ⟨s.toArray⟩, .slice aF fs.length cF, .slice aL ls.length cL, .int .i64 x]) rfl rfl hkey ?_
            intro wwz hmwz hkwz
            refine hK _ _ (fun _ => HS0.trans hkwz) ?_
            clear hK K
            try simp only [Act.put, List.setIfInBounds_toArray, List.set_cons_zero, List.set_cons_succ]
            refine wpAnyL_done (by kernel_rfl) ?_ _
            have hmw : MapI wwz mi (c3.ni + 1) (ML.v fun y => if y = key then some ⟨k, s, aF, fs, cF, aL, ls, cL, x⟩ else c3.it y) := hmwz.ext fun y => (updI_i c3.it key (some ⟨k, s, aF, fs, cF, aL, ls, cL, x⟩) y).symm
            have hkw : Keeps (fun y => y ≠ mi) wz wwz := HS0.trans hkwz
            have hA4 := HAZ.out.items (W' := wwz) (by rw [HE3.out.2.2]; exact hkw) (c3.ni + 1) _ (by rw [HE3.out.2.2]; exact hmw) (by have := HN3.out; omega) (fun y i e => by
              by_cases hy : y = key
              · rw [if_pos hy] at e
                cases e
                exact .inr ⟨HOKZ.out, HOFZ.out, HSMO.out _ rfl⟩
              · rw [if_neg hy] at e
                exact .inl e)
            have HA4 := Lib.hid hA4
            have HK4' : Hid (BgK p mb mi wk wwz) := Lib.hid (HKZ.out.transIn hkw fun y hy h e => h.2.2.2 e)
            clear hmwz hkwz hmw hA4 q6 hxbz x0wz x1wz x2wz x3wz x4wz HS0 HKZ hkw
            go_wp2
            go_roundw
            case rel => exact ⟨n + 1, by omega, by go_num, Lib.hid ⟨_, by rw [HX.out, ← HC3.out, ← HC2.out]; exact HS.out.add_live HMEM.out HRAW.out.symm HAL.out _, HA4.out, HK4'.out, fun g' e => by rw [← HC3.out, ← HC2.out] at e; cases e; exact HG.out⟩⟩
            case measure => simp [intOf]; omega
    · obtain rfl : n = KS.length := by omega
      have k1 : ¬ (KS.length : Int) < (KS.length : Int) := by omega
      go_wp2
      go_ret
      rw [List.take_length] at HI
      obtain ⟨c, hS, hA, hKp, hKv⟩ := HI.out
      exact ⟨c, p, mb, mi, rfl, hA, ⟨hS.e1, hS.e2, by rw [hS.e3, HKS.out], hS.e4, hS.e5, by have := hS.e6; omega, hS.e7⟩⟩
end Go.Proofs.YtokcbcjonbjkgaaGreatDoor
