/- What the reference's Apply makes of lists in memory is what it makes of plain ones. The contract of the law's Make: a space by numbers (11). The contract of the statements' own 'Great'. -/
import Derived.Test.YtahmddopbmjepaaDoorRD42
import Derived.Test.YtahmddopbmjepaaDoorRD43
import Derived.Test.YtahmddopbmjepaaDoorRD44
import Derived.Test.YtahmddopbmjepaaDoorRD09
import Derived.BigQuiet
import Derived.LoopTactic
import Derived.Deep.Cut
namespace Go.Proofs.YtahmddopbmjepaaDoor
set_option linter.unusedVariables false
set_option linter.unusedSimpArgs false

theorem stepL_p (e : Le) (st : List Lp × Bool) (p : Lp) : ((stepL e st p).1.map Lp.p, (stepL e st p).2) = Db.stepA e.e (st.1.map Lp.p, st.2) p.p := by
  unfold stepL Db.stepA
  show _ = (if p.key = e.key then _ else _, _)
  by_cases h1 : (!st.2 && !decide (p.key < e.key)) = true
  · have h2 : (!st.2 && !decide (p.p.key < e.e.key)) = true := h1
    simp only [h1, h2, if_true]
    by_cases h : p.key = e.key <;> simp [h] <;> rfl
  · have h2 : ¬ (!st.2 && !decide (p.p.key < e.e.key)) = true := h1
    simp only [h1, h2, if_false]
    by_cases h : p.key = e.key <;> simp [h]
theorem foldL_p (e : Le) : ∀ (ps : List Lp) (st : List Lp × Bool), ((ps.foldl (stepL e) st).1.map Lp.p, (ps.foldl (stepL e) st).2) = (ps.map Lp.p).foldl (Db.stepA e.e) (st.1.map Lp.p, st.2)
  | [], _ => rfl
  | p :: ps, st => by
    rw [List.foldl_cons, List.map_cons, List.foldl_cons, ← stepL_p, ← foldL_p e ps]
theorem app1L_p (ps : List Lp) (e : Le) : (app1L ps e).map Lp.p = Db.app1 (ps.map Lp.p) e.e := by
  have h := foldL_p e ps ([], e.gone)
  have h1 := congrArg Prod.fst h
  have h2 := congrArg Prod.snd h
  unfold app1L Db.app1 foldL Db.foldA
  simp only [List.map_nil] at h1 h2
  show _ = if _ = true then _ else _
  rw [show e.e.gone = e.gone from rfl, ← h1, ← h2]
  split
  · rfl
  · rw [List.map_append]; rfl
theorem appL_p (ps : List Lp) (es : List Le) : (appL ps es).map Lp.p = Db.app (ps.map Lp.p) (es.map Le.e) := by
  unfold appL Db.app
  induction es generalizing ps with
  | nil => rfl
  | cons e es ih => rw [List.foldl_cons, List.map_cons, List.foldl_cons, ih, app1L_p]
end Go.Proofs.YtahmddopbmjepaaDoor
namespace Go.Proofs.YtahmddopbmjepaaDoor
open Go.RowKit Go.Shelf
attribute [local go_sem] Oper.semAt_some
set_option linter.unusedVariables false
set_option linter.unusedSimpArgs false

/-- the space by numbers. -/
def numE (ns : List UInt8) : List Db.E := effsT ns (min 40 (ns.length / 4))
def numDb (ns : List UInt8) : List Db.P := Db.app [] (numE ns)
theorem effT_key (ns : List UInt8) (i : Nat) : (effT ns i).key.length ≤ 4 := keyT_len _
theorem effT_may (ns : List UInt8) (i : Nat) (h : (effT ns i).gone = false) : It.mayB (effT ns i).it = true := by
  have hx := (ns.getD (i + 2) 0).toNat_lt
  have hg : decide ((ns.getD (i + 1) 0).toNat % 4 = 0) = false := h
  show It.mayB (if decide ((ns.getD (i + 1) 0).toNat % 4 = 0) = true then _ else _) = true
  rw [hg]
  exact make_may _ _ (by omega) (by omega)
theorem effT_sm (ns : List UInt8) (i : Nat) : (effT ns i).Sm := by
  refine ⟨by have := effT_key ns i; omega, ?_⟩
  cases h : (effT ns i).gone with
  | true =>
    have hg : decide ((ns.getD (i + 1) 0).toNat % 4 = 0) = true := h
    show It.I.Sm (if decide ((ns.getD (i + 1) 0).toNat % 4 = 0) = true then _ else _)
    rw [hg, if_pos rfl]
    exact ⟨by decide, by decide, by decide, by simp, by simp⟩
  | false => exact may_sm (effT_may ns i h)
theorem numE_mem {ns : List UInt8} {e : Db.E} (h : e ∈ numE ns) : ∃ i, e = effT ns i := by
  obtain ⟨j, -, rfl⟩ := List.mem_map.1 h
  exact ⟨_, rfl⟩
theorem numE_sm {ns : List UInt8} : ∀ e ∈ numE ns, e.Sm := fun e h => by
  obtain ⟨i, rfl⟩ := numE_mem h
  exact effT_sm ns i
theorem numE_len (ns : List UInt8) : (numE ns).length ≤ 40 := by unfold numE effsT; simp; omega
theorem app_mem {db : List Db.P} (h : Db.AscP db) (es : List Db.E) : ∀ p ∈ Db.app db es, p ∈ db ∨ ∃ e ∈ es, e.gone = false ∧ p = ⟨e.key, e.it⟩ := by
  unfold Db.app
  induction es generalizing db with
  | nil => exact fun p hp => .inl hp
  | cons e es ih =>
    intro p hp
    rcases ih (Db.app1_asc h e) p hp with h1 | ⟨e', h1, h2⟩
    · rcases (Db.mem_app1 h e p).1 h1 with h1 | h1
      · exact .inl h1.1
      · exact .inr ⟨e, List.mem_cons_self .., (Db.ins_key h1).2, (Db.ins_key h1).1⟩
    · exact .inr ⟨e', List.mem_cons_of_mem _ h1, h2⟩
theorem asc_nil : Db.AscP [] := List.Pairwise.nil
/-- a pair is as the law's numbers make it. -/
def Gd (p : Db.P) : Prop := p.key.length ≤ 4 ∧ It.mayB p.it = true
theorem Gd.sm {p : Db.P} (h : Gd p) : p.Sm := ⟨by have := h.1; omega, may_sm h.2⟩
theorem app_gd {db : List Db.P} (h : Db.AscP db) (hg : ∀ p ∈ db, Gd p) (ns : List UInt8) : ∀ p ∈ Db.app db (numE ns), Gd p := fun p hp => by
  rcases app_mem h _ p hp with h1 | ⟨e, h1, h2, rfl⟩
  · exact hg p h1
  · obtain ⟨i, rfl⟩ := numE_mem h1
    exact ⟨effT_key ns i, effT_may ns i h2⟩
theorem numDb_asc (ns : List UInt8) : Db.AscP (numDb ns) := Db.app_asc asc_nil _
theorem numDb_gd (ns : List UInt8) : ∀ p ∈ numDb ns, Gd p := app_gd asc_nil (by simp) ns
theorem app1_len (db : List Db.P) (e : Db.E) : (Db.app1 db e).length ≤ db.length + 1 := by
  rw [Db.app1_form, List.length_append, List.length_append]
  have h1 : (Db.ins e).length ≤ 1 := by unfold Db.ins; split <;> simp
  have h2 := List.length_filter_le (Db.neK e.key) (db.dropWhile (Db.ltK e.key))
  have h3 := congrArg List.length (List.takeWhile_append_dropWhile (p := Db.ltK e.key) (l := db))
  rw [List.length_append] at h3
  omega
theorem app_len (es : List Db.E) : ∀ db : List Db.P, (Db.app db es).length ≤ db.length + es.length := by
  unfold Db.app
  induction es with
  | nil => intro db; simp
  | cons e es ih =>
    intro db
    have h1 := ih (Db.app1 db e)
    have h2 := app1_len db e
    rw [List.foldl_cons, List.length_cons]
    omega
theorem numDb_len (ns : List UInt8) : (numDb ns).length ≤ 40 := by
  have h1 := app_len (numE ns) []
  have h2 := numE_len ns
  unfold numDb
  simp at h1
  omega

/-- a space that a call hands back. -/
def DbOut (qs : List Db.P) (w : World) (e : Ending) (W : World) : Prop := ∃ a cap ps, e = .returned (.slice a ps.length cap) ∧ Prs W a cap ps ∧ (a = none → cap = 0) ∧ ps.map Lp.p = qs ∧ Below w.heap.size w W
def EfOut (qs : List Db.E) (w : World) (e : Ending) (W : World) : Prop := ∃ a cap es, e = .returned (.slice a es.length cap) ∧ Efs W a cap es ∧ (a = none → cap = 0) ∧ es.map Le.e = qs ∧ Below w.heap.size w W
theorem efs_any (p : Option Addr) (cap : Nat) (ns : List UInt8) (w : World) (hB : Bytes w p ns) (hl : ns.length ≤ cap) (hc : ns.length ≤ 1000) :
    Calls Tryd.prog 38 #[.slice p ns.length cap] w (EfOut (numE ns) w) := by
  refine (effects_any p cap ns w hB hl hc).mono ?_
  rintro e W ⟨u, out, rfl, hm, hr⟩
  obtain ⟨a, c, rfl, he, hn⟩ := hr.efs
  exact ⟨a, c, out, rfl, he, hn, hm, hr.2.1⟩
theorem refApply_any (a : Option Addr) (cap : Nat) (ps : List Lp) (b : Option Addr) (cb : Nat) (es : List Le) (w : World) (hP : Prs w a cap ps) (hE : Efs w b cb es) (hn : ps.length ≤ 100000) (hm : es.length ≤ 100000) (ha : a = none → cap = 0) :
    Calls Tryd.prog 37 #[.slice a ps.length cap, .slice b es.length cb] w (DbOut (Db.app (ps.map Lp.p) (es.map Le.e)) w) := by
  refine (applyAll_any a cap ps b cb es w hP hE hn hm ha).mono ?_
  rintro e W ⟨u, rfl, hr⟩
  obtain ⟨a2, c2, rfl, hp, hn⟩ := hr.prs
  exact ⟨a2, c2, _, rfl, hp, hn, appL_p ps es, hr.2.1⟩

set_option maxHeartbeats 1000000 in
theorem spcMake_any (p : Option Addr) (cap : Nat) (ns : List UInt8) (w : World) (hB : Bytes w p ns) (hl : ns.length ≤ cap) (hc : ns.length ≤ 1000) :
    Calls Tryd.prog 17 #[.slice p ns.length cap] w (DbOut (numDb ns) w) := by
  have HE := Lib.hid (efs_any p cap ns w hB hl hc)
  have hnl := numE_len ns
  clear hB
  go_enter Tryd.func17, Tryd.ntmps17
  go_wp2_with fail
  refine HE.out.mono ?_
  rintro e w1 ⟨a, c, es, rfl, he, hn, hm, hb⟩
  have hel : es.length ≤ 40 := by have := congrArg List.length hm; rw [List.length_map] at this; omega
  have HA := Lib.hid (refApply_any none 0 [] a c es w1 (prs_nil w1) he (by simp) (by omega) (fun _ => rfl))
  rw [hm] at HA
  have HB := Lib.hid hb
  clear he hn hm hb
  go_wp2_with fail
  refine HA.out.mono ?_
  rintro e w2 ⟨a2, c2, ps, rfl, hp, hn2, hm2, hb2⟩
  have HP := Lib.hid (show DbOut (numDb ns) w (.returned (.slice a2 ps.length c2)) w2 from ⟨a2, c2, ps, rfl, hp, hn2, hm2, HB.out.trans (hb2.mono HB.out.size)⟩)
  clear hp hn2 hm2 hb2
  go_wp2_with fail
  go_ret
  exact HP.out

end Go.Proofs.YtahmddopbmjepaaDoor
namespace Go.Proofs.YtahmddopbmjepaaDoor
open Go.RowKit Go.Shelf
set_option linter.unusedVariables false

namespace It
/-- more than a statement goes through. -/
def bigF (p : List UInt8 × List UInt8) : Bool := decide (400 < p.1.length) || decide (400 < p.2.length)
def bigW (t : List UInt8) : Bool := decide (400 < t.length)
def greatB (s : List UInt8) (fs : List (List UInt8 × List UInt8)) (ws : List (List UInt8)) : Bool :=
  (fs.take 60).any bigF || (ws.take 60).any bigW || (decide (1000 < s.length) || decide (50 < fs.length) || decide (50 < ws.length))

theorem any_take_at {α : Type} {l : List α} {d : α} {f : α → Bool} {q : Nat} (h : q < l.length) (h6 : q < 60) (hf : f (l.getD q d) = true) : (l.take 60).any f = true := by
  rw [List.any_eq_true]
  refine ⟨l.getD q d, ?_, hf⟩
  rw [getD_eq h, List.mem_take_iff_getElem]
  exact ⟨q, by omega, rfl⟩
theorem any_take_none {α : Type} {l : List α} {d : α} {f : α → Bool} {q : Nat} (h : ∀ j, j < q → f (l.getD j d) = false) (hq : l.length ≤ q ∨ 60 ≤ q) : (l.take 60).any f = false := by
  rw [List.any_eq_false]
  intro x hx
  rw [List.mem_take_iff_getElem] at hx
  obtain ⟨j, hj, rfl⟩ := hx
  have := h j (by omega)
  rw [getD_eq (by omega)] at this
  simp [this]
theorem great_f {s : List UInt8} {fs : List (List UInt8 × List UInt8)} {ws : List (List UInt8)} {q : Nat} (h : q < fs.length) (h6 : q < 60) (hf : bigF (fs.getD q ([], [])) = true) : greatB s fs ws = true := by
  simp [greatB, any_take_at h h6 hf]
theorem great_w {s : List UInt8} {fs : List (List UInt8 × List UInt8)} {ws : List (List UInt8)} {q : Nat} (h : q < ws.length) (h6 : q < 60) (hf : bigW (ws.getD q []) = true) : greatB s fs ws = true := by
  simp [greatB, any_take_at h h6 hf]
theorem great_end {s : List UInt8} {fs : List (List UInt8 × List UInt8)} {ws : List (List UInt8)} (h1 : (fs.take 60).any bigF = false) (h2 : (ws.take 60).any bigW = false) :
    greatB s fs ws = (decide (1000 < s.length) || decide (50 < fs.length) || decide (50 < ws.length)) := by
  simp [greatB, h1, h2]
theorem great_no {s : List UInt8} {fs : List (List UInt8 × List UInt8)} {ws : List (List UInt8)} (h : greatB s fs ws = false) :
    s.length ≤ 1000 ∧ fs.length ≤ 50 ∧ ws.length ≤ 50 ∧ (∀ p ∈ fs, p.1.length ≤ 400 ∧ p.2.length ≤ 400) ∧ ∀ t ∈ ws, t.length ≤ 400 := by
  simp only [greatB, Bool.or_eq_false_iff, decide_eq_false_iff_not] at h
  obtain ⟨⟨h1, h2⟩, ⟨h3, h4⟩, h5⟩ := h
  rw [List.take_of_length_le (by omega), List.any_eq_false] at h1 h2
  refine ⟨by omega, by omega, by omega, fun p hp => ?_, fun t ht => ?_⟩
  · have := h1 p hp
    simp only [bigF, Bool.or_eq_true, decide_eq_true_eq, not_or] at this
    omega
  · have := h2 t ht
    simp only [bigW, decide_eq_true_eq] at this
    omega
end It

theorem ret_bool {a b : Bool} (h : a = b) : Ending.returned (.bool a) = .returned (.bool b) := by rw [h]

set_option linter.unusedSimpArgs false in
set_option maxRecDepth 100000 in
set_option maxHeartbeats 8000000 in
theorem great_any (k x : Int) (s : List UInt8) (aF : Option Addr) (cF : Nat) (fs : List (List UInt8 × List UInt8)) (aL : Option Addr) (cL : Nat) (ws : List (List UInt8)) (w : World) (hF : Fds w aF cF fs) (hL : Wds w aL cL ws) (hs : s.length ≤ 9223372036854775807) :
    Calls Tryd.prog 24 #[itv k s aF fs.length cF aL ws.length cL x] w fun e w' => e = .returned (.bool (It.greatB s fs ws)) ∧ Below w.heap.size w w' := by
  obtain ⟨W1, hW1⟩ : ∃ W1, w.alloc (itc k s aF fs.length cF aL ws.length cL x) = W1 := ⟨_, rfl⟩
  have hbx : ItBox W1 w.heap.size k s aF fs.length cF aL ws.length cL x := by rw [← hW1]; exact ItBox.new w k s aF fs.length cF aL ws.length cL x
  have hbw : Below w.heap.size w W1 := by rw [← hW1]; exact (Below.refl _ w).alloc (Nat.le_refl _) _
  obtain ⟨c0, c1, c2, c3, c4⟩ := hbx.at
  have hnF : fs.length ≤ 9223372036854775807 := Nat.le_trans hF.1 hF.2.1
  have hnL : ws.length ≤ 9223372036854775807 := Nat.le_trans hL.1 hL.2.1
  have hnFI : (fs.length : Int) ≤ 9223372036854775807 := by omega
  have hnLI : (ws.length : Int) ≤ 9223372036854775807 := by omega
  have HF := Lib.hid (hF.later hbw)
  have HL := Lib.hid (hL.later hbw)
  have HBW := Lib.hid hbw
  have HW1 := Lib.hid hW1
  clear hbx hW1 hF hL hbw
  unfold itv
  go_enter Tryd.func24, Tryd.ntmps24
  go_upto_region 1 with (fail)
  rw [show w.alloc (.cells #[.int .i64 k, .string ⟨s.toArray⟩, .slice aF fs.length cF, .slice aL ws.length cL, .int .i64 x] 68) = W1 from HW1.out]
  clear HW1
  go_wp2_with fail
  go_loop [2, 3] (fun r i => ∃ q : Nat, q ≤ fs.length ∧ q ≤ 60 ∧ r = .bool false ∧ i = .int .i64 q ∧ Hid (∀ j, j < q → It.bigF (fs.getD j ([], [])) = false)) (fun _ i => fs.length - (intOf i).toNat)
  case atStart => exact ⟨0, Nat.zero_le _, Nat.zero_le _, rfl, rfl, Lib.hid fun j h => by omega⟩
  case round =>
    obtain ⟨q, hq, hq6, rfl, rfl, HJ⟩ := hrel
    by_cases hlt : q < fs.length ∧ q < 60
    · obtain ⟨hlt, h60⟩ := hlt
      obtain ⟨b, o, rfl, hb, hc⟩ := HF.out.get (by omega)
      obtain ⟨y0, y1⟩ := hc q hlt
      have hlen := HF.out.len (k := q)
      obtain ⟨n, hn⟩ : ∃ n, (fs.getD q ([], [])).1 = n := ⟨_, rfl⟩
      obtain ⟨v, hv⟩ : ∃ v, (fs.getD q ([], [])).2 = v := ⟨_, rfl⟩
      rw [hn] at y0 hlen
      rw [hv] at y1 hlen
      have e : It.bigF (fs.getD q ([], [])) = (decide (400 < n.length) || decide (400 < v.length)) := by unfold It.bigF; rw [hn, hv]
      have HE := Lib.hid e
      have k0 : (0 : Int) ≤ (q : Int) := by omega
      have k1 : (q : Int) < (fs.length : Int) := by omega
      have k2 : (q : Int) < 60 := by omega
      have kT : ((q : Int)).toNat = q := by omega
      have hl1 := hlen.1
      have hl2 := hlen.2
      clear hn hv hc e hlen
      by_cases hn4 : 400 < n.length
      · have HG := Lib.hid (It.great_f (s := s) (ws := ws) hlt h60 (by rw [HE.out, decide_eq_true hn4]; rfl))
        have i4 : (400 : Int) < (n.length : Int) := by omega
        go_wp2
        go_ret
        exact ⟨by rw [HG.out]; rfl, HBW.out⟩
      · have i4 : (n.length : Int) ≤ 400 := by omega
        by_cases hv4 : 400 < v.length
        · have HG := Lib.hid (It.great_f (s := s) (ws := ws) hlt h60 (by rw [HE.out, decide_eq_true hv4, Bool.or_true]))
          have i5 : (400 : Int) < (v.length : Int) := by omega
          go_wp2
          go_ret
          exact ⟨by rw [HG.out]; rfl, HBW.out⟩
        · have i5 : (v.length : Int) ≤ 400 := by omega
          have HJ2 := Lib.hid (show ∀ j, j < q + 1 → It.bigF (fs.getD j ([], [])) = false from fun j hj => by
            rcases Nat.lt_or_ge j q with h' | h'
            · exact HJ.out j h'
            · obtain rfl : j = q := by omega
              rw [HE.out, decide_eq_false hn4, decide_eq_false hv4]; rfl)
          go_wp2
          go_round
          case rel => exact ⟨q + 1, by omega, by omega, rfl, by go_num, HJ2⟩
          case measure => simp [intOf]; omega
    · have HA := Lib.hid (It.any_take_none HJ.out (by omega))
      have HLT := Lib.hid hlt
      clear HJ
      by_cases hlt2 : q < fs.length
      all_goals
        go_upto_region 6 with (fail)
        go_wp2_with fail
        go_loop [2, 4] (fun r i => ∃ q : Nat, q ≤ ws.length ∧ q ≤ 60 ∧ r = .bool false ∧ i = .int .i64 q ∧ Hid (∀ j, j < q → It.bigW (ws.getD j []) = false)) (fun _ i => ws.length - (intOf i).toNat)
        case atStart => exact ⟨0, Nat.zero_le _, Nat.zero_le _, rfl, rfl, Lib.hid fun j h => by omega⟩
        case round =>
          obtain ⟨p, hp, hp6, rfl, rfl, HJ⟩ := hrel
          by_cases hlt3 : p < ws.length ∧ p < 60
          · obtain ⟨hlt3, h60⟩ := hlt3
            obtain ⟨b, o, rfl, hb, hc⟩ := HL.out.get (by omega)
            have y0 := hc p hlt3
            have hl1 := HL.out.len (k := p)
            obtain ⟨n, hn⟩ : ∃ n, ws.getD p [] = n := ⟨_, rfl⟩
            rw [hn] at y0 hl1
            have HE := Lib.hid (show It.bigW (ws.getD p []) = decide (400 < n.length) by unfold It.bigW; rw [hn])
            have k0 : (0 : Int) ≤ (p : Int) := by omega
            have k1 : (p : Int) < (ws.length : Int) := by omega
            have k2 : (p : Int) < 60 := by omega
            have kT : ((p : Int)).toNat = p := by omega
            clear hn hc
            by_cases hn4 : 400 < n.length
            · have HG := Lib.hid (It.great_w (s := s) (fs := fs) hlt3 h60 (by rw [HE.out, decide_eq_true hn4]))
              have i4 : (400 : Int) < (n.length : Int) := by omega
              go_wp2
              go_ret
              exact ⟨by rw [HG.out]; rfl, HBW.out⟩
            · have i4 : (n.length : Int) ≤ 400 := by omega
              have HJ2 := Lib.hid (show ∀ j, j < p + 1 → It.bigW (ws.getD j []) = false from fun j hj => by
                rcases Nat.lt_or_ge j p with h' | h'
                · exact HJ.out j h'
                · obtain rfl : j = p := by omega
                  rw [HE.out, decide_eq_false hn4])
              go_wp2
              go_round
              case rel => exact ⟨p + 1, by omega, by omega, rfl, by go_num, HJ2⟩
              case measure => simp [intOf]; omega
          · have HEN := Lib.hid (It.great_end (s := s) HA.out (It.any_take_none HJ.out (by omega)))
            have HLT3 := Lib.hid hlt3
            clear HJ
            by_cases hlt4 : p < ws.length
            all_goals
              go_wp2
              all_goals
                go_ret
                refine ⟨ret_bool ?_, HBW.out⟩
                rw [HEN.out, Bool.eq_iff_iff]
                simp only [Bool.or_eq_true, decide_eq_true_eq, eq_self, true_iff]
                omega
end Go.Proofs.YtahmddopbmjepaaDoor
