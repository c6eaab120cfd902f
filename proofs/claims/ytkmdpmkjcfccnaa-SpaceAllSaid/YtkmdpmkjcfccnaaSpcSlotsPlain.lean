/- The contracts of the law's Make and awake: a space by numbers (11). The slots of the law's keys, plainly (11). -/
import Derived.Test.YtkmdpmkjcfccnaaDbEffs
import Derived.Test.YtkmdpmkjcfccnaaSpcApply
import Derived.Test.YtkmdpmkjcfccnaaSpcIn2
namespace Go.Proofs.Ytkmdpmkjcfccnaa
open Go.RowKit Go.Shelf
attribute [local go_sem] Oper.semAt_some
set_option linter.unusedVariables false
set_option linter.unusedSimpArgs false

theorem stepL_p (e : Le) (st : List Lp × Bool) (p : Lp) : ((stepL e st p).1.map Lp.p, (stepL e st p).2) = Db.stepA e.e (st.1.map Lp.p, st.2) p.p := by
  unfold stepL Db.stepA
  show _ = (if p.key = e.key then _ else _, _)
  by_cases h1 : (!st.2 && !decide (p.key < e.key)) = true
  · have h2 : (!st.2 && !decide (p.p.key < e.e.key)) = true := h1
    simp only [h1, h2, if_true]
    by_cases h : p.key = e.key <;> simp [h] <;> rfl
  · have h2 : ¬ (!st.2 && !decide (p.p.key < e.e.key)) = true := h1
    simp only [h1, h2, if_false]
    by_cases h : p.key = e.key <;> simp [h]
theorem foldL_p (e : Le) : ∀ (ps : List Lp) (st : List Lp × Bool), ((ps.foldl (stepL e) st).1.map Lp.p, (ps.foldl (stepL e) st).2) = (ps.map Lp.p).foldl (Db.stepA e.e) (st.1.map Lp.p, st.2)
  | [], _ => rfl
  | p :: ps, st => by
    rw [List.foldl_cons, List.map_cons, List.foldl_cons, ← stepL_p, ← foldL_p e ps]
theorem app1L_p (ps : List Lp) (e : Le) : (app1L ps e).map Lp.p = Db.app1 (ps.map Lp.p) e.e := by
  have h := foldL_p e ps ([], e.gone)
  have h1 := congrArg Prod.fst h
  have h2 := congrArg Prod.snd h
  unfold app1L Db.app1 foldL Db.foldA
  simp only [List.map_nil] at h1 h2
  show _ = if _ = true then _ else _
  rw [show e.e.gone = e.gone from rfl, ← h1, ← h2]
  split
  · rfl
  · rw [List.map_append]; rfl
theorem appL_p (ps : List Lp) (es : List Le) : (appL ps es).map Lp.p = Db.app (ps.map Lp.p) (es.map Le.e) := by
  unfold appL Db.app
  induction es generalizing ps with
  | nil => rfl
  | cons e es ih => rw [List.foldl_cons, List.map_cons, List.foldl_cons, ih, app1L_p]

/-- the space by numbers. -/
def numE (ns : List UInt8) : List Db.E := effsT ns (min 40 (ns.length / 4))
def numDb (ns : List UInt8) : List Db.P := Db.app [] (numE ns)
theorem effT_key (ns : List UInt8) (i : Nat) : (effT ns i).key.length ≤ 4 := keyT_len _
theorem effT_may (ns : List UInt8) (i : Nat) (h : (effT ns i).gone = false) : It.mayB (effT ns i).it = true := by
  have hx := (ns.getD (i + 2) 0).toNat_lt
  have hg : decide ((ns.getD (i + 1) 0).toNat % 4 = 0) = false := h
  show It.mayB (if decide ((ns.getD (i + 1) 0).toNat % 4 = 0) = true then _ else _) = true
  rw [hg]
  exact make_may _ _ (by omega) (by omega)
theorem effT_sm (ns : List UInt8) (i : Nat) : (effT ns i).Sm := by
  refine ⟨by have := effT_key ns i; omega, ?_⟩
  cases h : (effT ns i).gone with
  | true =>
    have hg : decide ((ns.getD (i + 1) 0).toNat % 4 = 0) = true := h
    show It.I.Sm (if decide ((ns.getD (i + 1) 0).toNat % 4 = 0) = true then _ else _)
    rw [hg, if_pos rfl]
    exact ⟨by decide, by decide, by decide, by simp, by simp⟩
  | false => exact may_sm (effT_may ns i h)
theorem numE_mem {ns : List UInt8} {e : Db.E} (h : e ∈ numE ns) : ∃ i, e = effT ns i := by
  obtain ⟨j, -, rfl⟩ := List.mem_map.1 h
  exact ⟨_, rfl⟩
theorem numE_sm {ns : List UInt8} : ∀ e ∈ numE ns, e.Sm := fun e h => by
  obtain ⟨i, rfl⟩ := numE_mem h
  exact effT_sm ns i
theorem numE_len (ns : List UInt8) : (numE ns).length ≤ 40 := by unfold numE effsT; simp; omega
theorem app_mem {db : List Db.P} (h : Db.AscP db) (es : List Db.E) : ∀ p ∈ Db.app db es, p ∈ db ∨ ∃ e ∈ es, e.gone = false ∧ p = ⟨e.key, e.it⟩ := by
  unfold Db.app
  induction es generalizing db with
  | nil => exact fun p hp => .inl hp
  | cons e es ih =>
    intro p hp
    rcases ih (Db.app1_asc h e) p hp with h1 | ⟨e', h1, h2⟩
    · rcases (Db.mem_app1 h e p).1 h1 with h1 | h1
      · exact .inl h1.1
      · exact .inr ⟨e, List.mem_cons_self .., (Db.ins_key h1).2, (Db.ins_key h1).1⟩
    · exact .inr ⟨e', List.mem_cons_of_mem _ h1, h2⟩
theorem asc_nil : Db.AscP [] := List.Pairwise.nil
/-- a pair is as the law's numbers make it. -/
def Gd (p : Db.P) : Prop := p.key.length ≤ 4 ∧ It.mayB p.it = true
theorem Gd.sm {p : Db.P} (h : Gd p) : p.Sm := ⟨by have := h.1; omega, may_sm h.2⟩
theorem app_gd {db : List Db.P} (h : Db.AscP db) (hg : ∀ p ∈ db, Gd p) (ns : List UInt8) : ∀ p ∈ Db.app db (numE ns), Gd p := fun p hp => by
  rcases app_mem h _ p hp with h1 | ⟨e, h1, h2, rfl⟩
  · exact hg p h1
  · obtain ⟨i, rfl⟩ := numE_mem h1
    exact ⟨effT_key ns i, effT_may ns i h2⟩
theorem numDb_asc (ns : List UInt8) : Db.AscP (numDb ns) := Db.app_asc asc_nil _
theorem numDb_gd (ns : List UInt8) : ∀ p ∈ numDb ns, Gd p := app_gd asc_nil (by simp) ns
theorem app1_len (db : List Db.P) (e : Db.E) : (Db.app1 db e).length ≤ db.length + 1 := by
  rw [Db.app1_form, List.length_append, List.length_append]
  have h1 : (Db.ins e).length ≤ 1 := by unfold Db.ins; split <;> simp
  have h2 := List.length_filter_le (Db.neK e.key) (db.dropWhile (Db.ltK e.key))
  have h3 := congrArg List.length (List.takeWhile_append_dropWhile (p := Db.ltK e.key) (l := db))
  rw [List.length_append] at h3
  omega
theorem app_len (es : List Db.E) : ∀ db : List Db.P, (Db.app db es).length ≤ db.length + es.length := by
  unfold Db.app
  induction es with
  | nil => intro db; simp
  | cons e es ih =>
    intro db
    have h1 := ih (Db.app1 db e)
    have h2 := app1_len db e
    rw [List.foldl_cons, List.length_cons]
    omega
theorem numDb_len (ns : List UInt8) : (numDb ns).length ≤ 40 := by
  have h1 := app_len (numE ns) []
  have h2 := numE_len ns
  unfold numDb
  simp at h1
  omega

/-- a space that a call hands back. -/
def DbOut (qs : List Db.P) (w : World) (e : Ending) (W : World) : Prop := ∃ a cap ps, e = .returned (.slice a ps.length cap) ∧ Prs W a cap ps ∧ (a = none → cap = 0) ∧ ps.map Lp.p = qs ∧ Below w.heap.size w W
def EfOut (qs : List Db.E) (w : World) (e : Ending) (W : World) : Prop := ∃ a cap es, e = .returned (.slice a es.length cap) ∧ Efs W a cap es ∧ (a = none → cap = 0) ∧ es.map Le.e = qs ∧ Below w.heap.size w W
theorem ApplyOut.db {qs : List Db.P} {w W : World} {e : Ending} (h : ApplyOut qs w e W) : DbOut qs w e W := by
  obtain ⟨v, out, rfl, hr, hm⟩ := h
  obtain ⟨a, cap, rfl, hp, hn⟩ := hr.prs
  exact ⟨a, cap, out, rfl, hp, hn, hm, hr.2.1⟩
theorem efs_any (p : Option Addr) (cap : Nat) (ns : List UInt8) (w : World) (hB : Bytes w p ns) (hl : ns.length ≤ cap) (hc : ns.length ≤ 1000) :
    Calls Try.prog 30 #[.slice p ns.length cap] w (EfOut (numE ns) w) := by
  refine (effects_any p cap ns w hB hl hc).mono ?_
  rintro e W ⟨u, out, rfl, hm, hr⟩
  obtain ⟨a, c, rfl, he, hn⟩ := hr.efs
  exact ⟨a, c, out, rfl, he, hn, hm, hr.2.1⟩
theorem sps_any (a : Option Addr) (cap : Nat) (ps : List Lp) (b0 : Option Addr) (cb : Nat) (es : List Le) (w : World) (hP : Prs w a cap ps) (hE : Efs w b0 cb es) (hn : ps.length ≤ 100000) (hm : es.length ≤ 100000) (ha : a = none → cap = 0)
    (hu : AscL ps) (hsm : ∀ p ∈ ps, p.p.Sm) (hse : ∀ e ∈ es, e.e.Sm) :
    Calls Try.prog 21 #[.slice a ps.length cap, .slice b0 es.length cb] w (DbOut (Db.app (ps.map Lp.p) (es.map Le.e)) w) :=
  (spapply_any a cap ps b0 cb es w hP hE hn hm ha hu hsm hse).mono fun e W h => h.db
theorem refApply_any (a : Option Addr) (cap : Nat) (ps : List Lp) (b : Option Addr) (cb : Nat) (es : List Le) (w : World) (hP : Prs w a cap ps) (hE : Efs w b cb es) (hn : ps.length ≤ 100000) (hm : es.length ≤ 100000) (ha : a = none → cap = 0) :
    Calls Try.prog 22 #[.slice a ps.length cap, .slice b es.length cb] w (DbOut (Db.app (ps.map Lp.p) (es.map Le.e)) w) := by
  refine (applyAll_any a cap ps b cb es w hP hE hn hm ha).mono ?_
  rintro e W ⟨u, rfl, hr⟩
  obtain ⟨a2, c2, rfl, hp, hn⟩ := hr.prs
  exact ⟨a2, c2, _, rfl, hp, hn, appL_p ps es, hr.2.1⟩

set_option maxHeartbeats 1000000 in
theorem spcMake_any (p : Option Addr) (cap : Nat) (ns : List UInt8) (w : World) (hB : Bytes w p ns) (hl : ns.length ≤ cap) (hc : ns.length ≤ 1000) :
    Calls Try.prog 29 #[.slice p ns.length cap] w (DbOut (numDb ns) w) := by
  have HE := Lib.hid (efs_any p cap ns w hB hl hc)
  have hnl := numE_len ns
  clear hB
  go_enter Try.func29, Try.ntmps29
  go_wp2_with fail
  refine HE.out.mono ?_
  rintro e w1 ⟨a, c, es, rfl, he, hn, hm, hb⟩
  have hel : es.length ≤ 40 := by have := congrArg List.length hm; rw [List.length_map] at this; omega
  have HA := Lib.hid (refApply_any none 0 [] a c es w1 (prs_nil w1) he (by simp) (by omega) (fun _ => rfl))
  rw [hm] at HA
  have HB := Lib.hid hb
  clear he hn hm hb
  go_wp2_with fail
  refine HA.out.mono ?_
  rintro e w2 ⟨a2, c2, ps, rfl, hp, hn2, hm2, hb2⟩
  have HP := Lib.hid (show DbOut (numDb ns) w (.returned (.slice a2 ps.length c2)) w2 from ⟨a2, c2, ps, rfl, hp, hn2, hm2, HB.out.trans (hb2.mono HB.out.size)⟩)
  clear hp hn2 hm2 hb2
  go_wp2_with fail
  go_ret
  exact HP.out

/-- the effect that sets "a" to the empty text. -/
def effA : Le := ⟨[97], false, ⟨1, [], none, [], 0, none, [], 0, 0⟩⟩
def slotA : Nat := slotOf [97]
theorem slotA_lt : slotA < 16384 := slotOf_lt _
theorem inA : inS (slotA : Int) [[97]] = [[97]] := by unfold inS slotA; simp
theorem refSlot_any (l : List UInt8) (w : World) (h : l.length ≤ 1000000) : Calls Try.prog 32 #[.string ⟨l.toArray⟩] w fun e w' => e = .returned (.int .i64 (slotOf l : Int)) ∧ Below w.heap.size w w' := by
  refine (refSlot_walk ⟨l.toArray⟩ w (by unfold maxLen; simp [ByteArray.size]; omega)).mono ?_
  rintro e w' ⟨rfl, rfl⟩
  exact ⟨by simp, Below.refl _ _⟩
theorem efs_one {w : World} {b : Nat} {p : Le} (h : EAt w b 0 p) (hb : b < w.heap.size) (hok : p.Ok w) : Efs w (some ⟨b, 0, none⟩) 1 [p] := by
  refine ⟨⟨by simp, by decide, .inr ⟨b, 0, rfl, hb, fun k hk j hj => ?_⟩⟩, fun q hq => by rw [List.mem_singleton.1 hq]; exact hok⟩
  obtain rfl : k = 0 := by simp at hk; omega
  obtain ⟨h0, h1, h2, h3, h4, h5, h6⟩ := h
  simp only [Nat.zero_add] at h0 h1 h2 h3 h4 h5 h6
  match j, hj with
  | 0, _ => simpa [Le.cs, Li.cs] using h0
  | 1, _ => simpa [Le.cs, Li.cs] using h1
  | 2, _ => simpa [Le.cs, Li.cs] using h2
  | 3, _ => simpa [Le.cs, Li.cs] using h3
  | 4, _ => simpa [Le.cs, Li.cs] using h4
  | 5, _ => simpa [Le.cs, Li.cs] using h5
  | 6, _ => simpa [Le.cs, Li.cs] using h6

set_option maxRecDepth 100000 in
set_option maxHeartbeats 2000000 in
theorem awake_any (w : World) : Calls Try.prog 10 #[] w fun e W' => e = .returned (.bool true) ∧ Below w.heap.size w W' := by
  have he : Efs (effW w effA) (some ⟨w.heap.size, 0, none⟩) 1 [effA] := efs_one (effW_at w effA) (effW_size w effA) ⟨by decide, by decide, fds_nil _, wds_nil _, fun _ => rfl, fun _ => rfl⟩
  have ha := sps_any none 0 [] (some ⟨w.heap.size, 0, none⟩) 1 [effA] (effW w effA) (prs_nil _) he (by simp) (by simp) (fun _ => rfl) (fun i j h h2 => by simp at h2) (by simp) (fun e h => by
    rw [List.mem_singleton.1 h]
    exact ⟨by decide, by decide, by decide, by decide, by simp [effA, Le.e, Li.i], by simp [effA, Le.e, Li.i]⟩)
  have HA := Lib.hid ha
  have HB0 := Lib.hid (effW_below w effA)
  have HI0 := Lib.hid (fun W => spin_any none 0 [] 0 W (prs_nil W) (by simp) (by simp))
  have HS := Lib.hid (fun W => refSlot_any [97] W (by simp))
  clear ha he
  go_enter Try.func10, Try.ntmps10
  go_wp2_with fail
  refine HA.out.mono ?_
  rintro e w1 ⟨a, c, ps, rfl, hp, hn, hm, hb⟩
  have hl : ps.length = 1 := by have := congrArg List.length hm; rw [List.length_map] at this; exact this
  have hk : ps.map Lp.key = [[97]] := by
    have := congrArg (List.map Db.P.key) hm
    rw [List.map_map] at this
    exact this
  have HB1 := Lib.hid (HB0.out.trans (hb.mono HB0.out.size))
  have HP := Lib.hid hp
  have HK := Lib.hid hk
  have HOK : Hid (∀ p ∈ ps, p.key.length ≤ 1000000) := Lib.hid fun p h => by
    have h1 : p.key ∈ ps.map Lp.key := List.mem_map_of_mem h
    rw [hk] at h1
    rw [List.mem_singleton.1 h1]
    simp
  have HI1 := Lib.hid (fun W (h : Prs W a c ps) => spin_any a c ps (slotA : Int) W h (by omega) HOK.out)
  rw [hk, inA, hl] at HI1
  rw [hl]
  clear hp hn hm hb hk
  go_wp2_with fail
  refine (HI0.out _).mono ?_
  rintro e w2 ⟨u2, rfl, hr2⟩
  obtain ⟨a2, c2, rfl, -, -⟩ := wds_of_row (ws := []) (show w2.ownsRow _ _ _ _ ([] : List (List UInt8)).length _ from hr2.1) (by simp)
  have HB2 := Lib.hid (HB1.out.trans (hr2.2.mono HB1.out.size))
  have HP2 := Lib.hid (HP.out.later hr2.2)
  clear hr2
  go_wp2_with fail
  refine (HS.out _).mono ?_
  rintro e w3 ⟨rfl, hb3⟩
  have HB3 := Lib.hid (HB2.out.trans (hb3.mono HB2.out.size))
  have HP3 := Lib.hid (HP2.out.later hb3)
  clear hb3
  go_wp2_with fail
  refine (HI1.out _ HP3.out).mono ?_
  rintro e w4 ⟨u4, rfl, hr4⟩
  obtain ⟨a4, c4, rfl, -, -⟩ := wds_of_row (ws := [[97]]) (show w4.ownsRow _ _ _ _ ([[97]] : List (List UInt8)).length _ from hr4.1) (by simp)
  have HB4 := Lib.hid (HB3.out.trans (hr4.2.mono HB3.out.size))
  clear hr4
  go_wp2_with fail
  go_ret
  exact ⟨rfl, HB4.out⟩
end Go.Proofs.Ytkmdpmkjcfccnaa
namespace Go.Proofs.Ytkmdpmkjcfccnaa
set_option linter.unusedVariables false

/-- the slot of the k-th key. -/
def sK (k : Nat) : Nat := slotOf (keyT (k : Int))
theorem tag_c (c : UInt8) (t : List UInt8) (h : c ≠ 125) (h2 : c ≠ 123) : Tags.tag (123 :: c :: 125 :: t) = [c] := by
  have h1 : Tags.split 125 (c :: 125 :: t) = some ([c], t) := by
    have := Tags.split_append (c := 125) (a := [c]) (b := t) (by simp [Ne.symm h])
    simpa using this
  unfold Tags.tag
  rw [show Tags.split 123 (123 :: c :: 125 :: t) = some ([], c :: 125 :: t) from by simpa using Tags.split_append (c := 123) (a := []) (b := c :: 125 :: t) (by simp)]
  simp [h1]
theorem tagK (y : Int) (h : 0 ≤ y) : Tags.tag (keyT y) = [UInt8.ofNat (97 + y % 4).toNat] := by
  have h4 : (97 + y % 4).toNat = 97 ∨ (97 + y % 4).toNat = 98 ∨ (97 + y % 4).toNat = 99 ∨ (97 + y % 4).toNat = 100 := by omega
  unfold keyT
  rcases h4 with h4 | h4 | h4 | h4 <;> rw [h4] <;> exact tag_c _ _ (by decide) (by decide)
theorem slot_keyT (y : Int) (h : 0 ≤ y) : slotOf (keyT y) = sK (y % 4).toNat := by
  unfold sK slotOf
  rw [tagK y h, tagK _ (by omega)]
  congr 4
  omega
theorem sK_vals : sK 0 = 15495 ∧ sK 1 = 3300 ∧ sK 2 = 7365 ∧ sK 3 = 11298 := by
  unfold sK slotOf
  rw [tagK _ (by omega), tagK _ (by omega), tagK _ (by omega), tagK _ (by omega)]
  decide
def cntU (ks : List (List UInt8)) : Nat → Nat
  | 0 => 0
  | k + 1 => cntU ks k + (inS (sK k : Int) ks).length
theorem cnt_sum : ∀ ks : List (List UInt8), (∀ k ∈ ks, ∃ y : Int, 0 ≤ y ∧ y ≤ 255 ∧ k = keyT y) → cntU ks 4 = ks.length
  | [], _ => rfl
  | k :: ks, h => by
    have ih := cnt_sum ks fun x hx => h x (List.mem_cons_of_mem _ hx)
    obtain ⟨y, h0, h1, rfl⟩ := h k (List.mem_cons_self ..)
    obtain ⟨v0, v1, v2, v3⟩ := sK_vals
    have hc : ∀ z : Nat, (inS (z : Int) (keyT y :: ks)).length = (inS (z : Int) ks).length + if sK (y % 4).toNat = z then 1 else 0 := fun z => by
      unfold inS
      rw [List.filter_cons, slot_keyT y h0]
      by_cases hz : sK (y % 4).toNat = z
      · have : ((sK (y % 4).toNat : Nat) : Int) = (z : Int) := by omega
        simp [hz]
      · have : ¬ ((sK (y % 4).toNat : Nat) : Int) = (z : Int) := by omega
        simp [hz, this]
    simp only [cntU, hc, List.length_cons] at ih ⊢
    have hy : (y % 4).toNat = 0 ∨ (y % 4).toNat = 1 ∨ (y % 4).toNat = 2 ∨ (y % 4).toNat = 3 := by omega
    generalize (inS (sK 0 : Int) ks).length = n0 at *
    generalize (inS (sK 1 : Int) ks).length = n1 at *
    generalize (inS (sK 2 : Int) ks).length = n2 at *
    generalize (inS (sK 3 : Int) ks).length = n3 at *
    rcases hy with hy | hy | hy | hy <;> rw [hy] <;> simp only [v0, v1, v2, v3] <;> simp <;> omega
theorem inS_mem {z : Int} {ks : List (List UInt8)} {k : List UInt8} (h : k ∈ inS z ks) : k ∈ ks ∧ (slotOf k : Int) = z := by
  unfold inS at h
  rw [List.mem_filter] at h
  exact ⟨h.1, of_decide_eq_true h.2⟩
theorem numDb_key (ns : List UInt8) : ∀ p ∈ numDb ns, ∃ y : Int, 0 ≤ y ∧ y ≤ 255 ∧ p.key = keyT y := fun p hp => by
  rcases app_mem asc_nil _ p hp with h1 | ⟨e, h1, h2, rfl⟩
  · cases h1
  · obtain ⟨i, rfl⟩ := numE_mem h1
    have := (ns.getD i 0).toNat_lt
    exact ⟨_, by omega, by omega, rfl⟩
theorem inS_asc {z : Int} {ks : List (List UInt8)} (h : ks.Pairwise fun x y => x < y) : (inS z ks).Pairwise fun x y => x < y := h.filter _
end Go.Proofs.Ytkmdpmkjcfccnaa
