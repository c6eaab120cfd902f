/- The walk of HashAll: of any fields, what the program tells and makes is what the reference tells and makes. -/
import Derived.Test.YtfbfejeccfoioaaHsOpen
import Derived.Test.YtfbfejeccfoioaaHsRising
import Derived.Maps.AppendAt
namespace Go.Proofs.Ytfbfejeccfoioaa
open Go.RowKit Go.Shelf
set_option linter.unusedVariables false
set_option linter.unusedSimpArgs false

/-- an empty literal of fields. -/
theorem rowF_empty (w W : World) (h : Below w.heap.size w W) : RowF w (.slice (some ⟨W.heap.size, 0, none⟩) 0 0) [] (W.alloc (.cells #[] 42)) :=
  ⟨⟨rfl, .inr ⟨W.heap.size, 0, #[], rfl, h.size, World.alloc_heap_new W _, Nat.le_refl _, by decide, by simp, by simp [fcells]⟩⟩, h.alloc h.size _⟩

/-- append(l, x...) of fields, whatever they are. -/
theorem run_append_fd {w W : World} {fs xs : List Fd} {v : Value} {a : Option Addr} {c : Nat} (h : RowF w v fs W) (hb : Fds W a c xs) (hn : a = none → c = 0) (hl : fs.length ≤ 1000000) (hx : xs.length ≤ 1000000) (ty : TypeId) :
    ∃ v' W', (Builtin.append_ #[22, 22] ty #[v, .slice a xs.length c]).run Try.prog W = .ok v' W' ∧ RowF w v' (fs ++ xs) W' := by
  obtain ⟨iF, hiF, hiF0, hiF1, hiF2⟩ := info_parts infoF
  cases a with
  | none =>
    obtain rfl := hn rfl
    have hx0 : xs = [] := List.eq_nil_of_length_eq_zero (by have := hb.1; omega)
    subst hx0
    rw [List.append_nil]
    exact ⟨v, W, run_append_owned_none W w.heap.size _ ty _ iF 2 Try.underlying22 hiF v _ _ h.1, h⟩
  | some ad =>
    have hnews : ∀ (j : Nat) (u : Value), (fcells xs)[j]? = some u → W.cell? (ad.add j) = some u := by
      intro j u hj
      have hjl : j < xs.length * 2 := by
        have := (List.getElem?_eq_some_iff.1 hj).1
        rwa [fcells_len] at this
      obtain ⟨b, off, ha, -, hc⟩ := hb.get (by omega)
      obtain rfl := Option.some.inj ha
      have e : ∀ j, (Addr.add ⟨b, off, none⟩ j) = ⟨b, off + j, none⟩ := fun j => by unfold Addr.add; split <;> simp_all
      rw [e]
      obtain ⟨f0, f1⟩ := fcells_at xs (j / 2) (by omega)
      obtain ⟨g0, g1⟩ := hc (j / 2) (by omega)
      rcases Nat.mod_two_eq_zero_or_one j with h2 | h2
      · rw [show j / 2 * 2 = j by omega] at f0 g0
        rw [g0, ← f0, hj]
      · rw [show j / 2 * 2 + 1 = j by omega] at f1
        rw [show off + j / 2 * 2 + 1 = off + j by omega] at g1
        rw [g1, ← f1, hj]
    have hone : ∀ u ∈ fcells xs, u.oneCell' = true := by
      intro u hu
      unfold fcells at hu
      obtain ⟨b, _, hb⟩ := List.mem_flatMap.1 hu
      simp at hb
      rcases hb with rfl | rfl <;> rfl
    obtain ⟨v', W', hr, ho, hg, -, -⟩ := run_append_own_at (P := Try.prog) W w.heap.size 22 ty 42 iF _ 2 32 Try.underlying22 hiF hiF0 hiF1 hiF2 rfl (by decide) v fs.length (fcells fs) h.1 ad xs.length c (fcells xs) (fcells_len xs) hnews hone (by unfold maxLen; omega) (by omega) h.2.size
    refine ⟨v', W', hr, ?_, h.2.trans ((Keeps.of_grown (S := fun k => k < w.heap.size) hg fun r e hlt => by have := (h.1.lt r e).1; omega).below h.2.size fun k hk => hk)⟩
    rw [List.length_append, show fcells (fs ++ xs) = fcells fs ++ fcells xs by simp [fcells]]
    exact ho

theorem wpList_append_fd {ops : Array Oper} {rest : List Oper} {o : Oper} {a : Act} {Q : Exit → Act → World → Prop} (hgd : o.guard = none) (s x : Operand)
    (ho : o.op = .call { callee := .builtin .append, args := #[s, x], argTypes := #[22, 22] })
    {w W : World} {v : Value} {fs xs : List Fd} {ax : Option Addr} {c : Nat} (hs : a.eval s = v) (h : RowF w v fs W) (hx : a.eval x = .slice ax xs.length c) (hb : Fds W ax c xs) (hn : ax = none → c = 0) (hl : fs.length ≤ 1000000) (hxl : xs.length ≤ 1000000)
    (hK : ∀ v' W', RowF w v' (fs ++ xs) W' → wpList Try.prog ops Q rest (a.put o.dst v') W') : wpList Try.prog ops Q (o :: rest) a W :=
  wpList_plain hgd fun K hk => by
    obtain ⟨v', W', hr, h2⟩ := run_append_fd h hb hn hl hxl o.type
    unfold Oper.wp execOp
    simp only [ho, resolve, invoke, builtin, Sem.run_bind, Sem.run_pure, Result.andThen_ok, List.map_toArray, List.map_cons, List.map_nil, hs, hx, hr]
    exact hk _ _ (hK v' W' h2)

set_option maxRecDepth 100000 in
set_option maxHeartbeats 8000000 in
theorem hashAll_walk (a : Option Addr) (cap : Nat) (fs : List Fd) (n v : List UInt8) (w : World) (hF : Fds w a cap fs) (ha : a = none → cap = 0) (hnl : n.length ≤ 9223372036854775807) (hvl : v.length ≤ 9223372036854775807) :
    Calls Try.prog 3 #[.slice a fs.length cap, .string ⟨n.toArray⟩, .string ⟨v.toArray⟩] w fun e W => e = .returned (.bool true) ∧ Below w.heap.size w W := by
  have hris := rising_any a cap fs w hF (Nat.le_trans hF.1 hF.2.1)
  have HRIS := Lib.hid hris
  have HF := Lib.hid hF
  have HA := Lib.hid ha
  have hup := Hs.risF_up (l := fs)
  obtain ⟨q, hq⟩ : ∃ q, Hs.risF fs = q := ⟨_, rfl⟩
  rw [hq] at HRIS hup
  have HUP := Lib.hid hup
  clear hris hF ha hup hq
  go_enter Try.func3, Try.ntmps3
  go_wp2_with fail
  refine HRIS.out.mono ?_
  rintro e w1 ⟨rfl, hb⟩
  have HB1 := Lib.hid hb
  clear hb HRIS
  have hawk : ∀ W, Below w.heap.size w W → Calls Try.prog 7 #[] W fun e W' => e = .returned (.bool true) ∧ Below w.heap.size w W' := fun W h => (awake_any W).mono fun e W' ⟨he, hb⟩ => ⟨he, h.trans (hb.mono h.size)⟩
  have HAW := Lib.hid hawk
  clear hawk
  by_cases hok : q = true ∧ n.length ≤ 300 ∧ v.length ≤ 300
  rotate_left
  · by_cases h1 : q = true
    · subst h1
      by_cases h2 : n.length ≤ 300
      · have c1 : ¬ (300 : Int) < (n.length : Int) := by omega
        have c2 : (300 : Int) < (v.length : Int) := by
          by_cases h3 : v.length ≤ 300
          · exact (hok ⟨rfl, h2, h3⟩).elim
          · omega
        clear hok h2
        go_wp2_with fail
        refine (HAW.out w1 HB1.out).mono ?_
        rintro e w2 ⟨rfl, hb⟩
        have HB2 := Lib.hid hb
        clear hb
        go_wp2_with fail
        go_ret
        exact ⟨rfl, HB2.out⟩
      · have c1 : (300 : Int) < (n.length : Int) := by omega
        clear hok h2
        go_wp2_with fail
        refine (HAW.out w1 HB1.out).mono ?_
        rintro e w2 ⟨rfl, hb⟩
        have HB2 := Lib.hid hb
        clear hb
        go_wp2_with fail
        go_ret
        exact ⟨rfl, HB2.out⟩
    · obtain rfl : q = false := by simpa using h1
      clear hok h1
      go_wp2_with fail
      refine (HAW.out w1 HB1.out).mono ?_
      rintro e w2 ⟨rfl, hb⟩
      have HB2 := Lib.hid hb
      clear hb
      go_wp2_with fail
      go_ret
      exact ⟨rfl, HB2.out⟩
  obtain ⟨rfl, hn3, hv3⟩ := hok
  obtain ⟨hup, hfl, hfe⟩ := HUP.out rfl
  have hfo : ∀ x ∈ fs, OkF x := fun x hx => by have := hfe x hx; unfold OkF; omega
  have hnv : OkF (n, v) := ⟨by simp; omega, by simp; omega⟩
  have c1 : ¬ (300 : Int) < (n.length : Int) := by omega
  have c2 : ¬ (300 : Int) < (v.length : Int) := by omega
  have HFW := Lib.hid (fun W (h : Below w.heap.size w W) => HF.out.later h)
  have HGET := Lib.hid (fun W (h : Below w.heap.size w W) => callsIn_wide.1 (get_any a cap fs n W (HFW.out W h) (by omega) hfo))
  have HRGET := Lib.hid (fun W (h : Below w.heap.size w W) => hget_any a cap fs n W (HFW.out W h) (by omega))
  have HSET := Lib.hid (fun W (h : Below w.heap.size w W) => callsIn_wide.1 (set_any a cap fs n v W (HFW.out W h) (by omega) hfo hnv))
  have hrs := fun W (h : Below w.heap.size w W) => hset_any a cap fs n v W (HFW.out W h) (by omega) (by omega) (by omega)
  rw [Hs.hset_eq n v hup] at hrs
  have HRSET := Lib.hid hrs
  have HDEL := Lib.hid (fun W (h : Below w.heap.size w W) => callsIn_wide.1 (del_any a cap fs n W (HFW.out W h) (by omega) hfo))
  have HRDEL := Lib.hid (fun W (h : Below w.heap.size w W) => hdel_any a cap fs n W (HFW.out W h) (by omega))
  have HNAM := Lib.hid (fun W (h : Below w.heap.size w W) => callsIn_wide.1 (names_any a cap fs W (HFW.out W h) (by omega) hfo))
  have HRNAM := Lib.hid (fun W (h : Below w.heap.size w W) => hnames_any a cap fs W (HFW.out W h) (by omega))
  have HVAL := Lib.hid (fun W (h : Below w.heap.size w W) => callsIn_wide.1 (vals_any a cap fs W (HFW.out W h) (by omega) hfo))
  have HRVAL := Lib.hid (fun W (h : Below w.heap.size w W) => hvals_any a cap fs W (HFW.out W h) (by omega))
  have HOS := Lib.hid (ok_set hfo hnv)
  have HOD := Lib.hid (ok_del n hfo)
  have HFO := Lib.hid hfo
  have hfl' : fs.length ≤ 1000000 := by omega
  have HWN : Hid (∀ s ∈ fs.map (·.1), s.length ≤ 9223372036854775807) := Lib.hid fun s hs => by obtain ⟨x, hx, rfl⟩ := List.mem_map.1 hs; have := hfe x hx; omega
  have HWV : Hid (∀ s ∈ fs.map (·.2), s.length ≤ 9223372036854775807) := Lib.hid fun s hs => by obtain ⟨x, hx, rfl⟩ := List.mem_map.1 hs; have := hfe x hx; omega
  have hz1 := HB1.out.size
  clear hrs hup hfe hfo hnv HUP hn3 hv3
  generalize Hs.getP fs n = gp at *
  generalize Hs.set fs n v = sl at *
  generalize Hs.del fs n = dl at *
  generalize fs.map (·.1) = nl at *
  generalize fs.map (·.2) = vl at *
  go_wp2_with (at_builtin; refine wpList_append_fd rfl (.tmp 25) (.tmp 26) rfl rfl (rowF_empty w w1 HB1.out) rfl ((HFW.out w1 HB1.out).later ((Below.refl _ _).alloc (Nat.le_refl _) _)) HA.out (by simp) hfl' ?_; intro v2 w2 hr2; rw [List.nil_append] at hr2; obtain ⟨a2, c2', rfl, hf2⟩ := hr2.fds HFO.out; have HB2 := Lib.hid hr2.2; have HF2 := Lib.hid hf2; clear hr2 hf2)

  have HG2 := Lib.hid (Below.refl w2.heap.size w2)
  refine (HGET.out w2 HB2.out).mono ?_
  rintro e w3 ⟨rfl, hb⟩
  have HG3 := Lib.hid (HG2.out.trans (hb.mono HG2.out.size))
  have HB3 := Lib.hid (HB2.out.trans (hb.mono HB2.out.size))
  clear hb
  go_wp2_with fail
  refine (HRGET.out w3 HB3.out).mono ?_
  rintro e w4 ⟨rfl, hb⟩
  have HG4 := Lib.hid (HG3.out.trans (hb.mono HG3.out.size))
  have HB4 := Lib.hid (HB3.out.trans (hb.mono HB3.out.size))
  clear hb
  go_wp2_with fail
  obtain ⟨w5, hw5⟩ : ∃ w5, w4.alloc (.cells #[.string ⟨gp.1.toArray⟩, .bool gp.2] 28) = w5 := ⟨_, rfl⟩
  have HB5 := Lib.hid (show Below w.heap.size w w5 by rw [← hw5]; exact HB4.out.alloc HB4.out.size _)
  have HG5 := Lib.hid (show Below w2.heap.size w2 w5 by rw [← hw5]; exact HG4.out.alloc HG4.out.size _)
  rw [show w4.alloc (.cells #[.string ⟨gp.1.toArray⟩, .bool gp.2] 28) = w5 from hw5]
  clear hw5
  refine (HSET.out w5 HB5.out).mono ?_
  rintro e w6 ⟨u11, rfl, hr⟩
  have HG6 := Lib.hid (HG5.out.trans (hr.2.mono HG5.out.size))
  obtain ⟨b11, d11, rfl, hf⟩ := hr.fds HOS.out
  have HB6 := Lib.hid (HB5.out.trans (hr.2.mono HB5.out.size))
  have HF11_ := Lib.hid hf
  have HL11 := Lib.hid hr.2
  clear hr hf
  go_wp2_with fail
  refine (HRSET.out w6 HB6.out).mono ?_
  rintro e w7 ⟨u12, rfl, hr⟩
  have HG7 := Lib.hid (HG6.out.trans (hr.2.mono HG6.out.size))
  obtain ⟨b12, d12, rfl, hf⟩ := hr.fds HOS.out
  have HB7 := Lib.hid (HB6.out.trans (hr.2.mono HB6.out.size))
  have HF12_ := Lib.hid hf
  have HL12 := Lib.hid hr.2
  clear hr hf
  go_wp2_with fail
  refine (sameF_any _ _ _ _ _ _ w7 (HF11_.out.later HL12.out) HF12_.out).mono ?_
  rintro e w8 ⟨rfl, hb⟩
  have HB8 := Lib.hid (HB7.out.trans (hb.mono HB7.out.size))
  have HG8 := Lib.hid (HG7.out.trans (hb.mono HG7.out.size))
  clear hb
  simp only [decide_true]
  go_wp2_with fail
  refine (HDEL.out w8 HB8.out).mono ?_
  rintro e w9 ⟨u13, rfl, hr⟩
  have HG9 := Lib.hid (HG8.out.trans (hr.2.mono HG8.out.size))
  obtain ⟨b13, d13, rfl, hf⟩ := hr.fds HOD.out
  have HB9 := Lib.hid (HB8.out.trans (hr.2.mono HB8.out.size))
  have HF13_ := Lib.hid hf
  have HL13 := Lib.hid hr.2
  clear hr hf
  go_wp2_with fail
  refine (HRDEL.out w9 HB9.out).mono ?_
  rintro e w10 ⟨u14, rfl, hr⟩
  have HG10 := Lib.hid (HG9.out.trans (hr.2.mono HG9.out.size))
  obtain ⟨b14, d14, rfl, hf⟩ := hr.fds HOD.out
  have HB10 := Lib.hid (HB9.out.trans (hr.2.mono HB9.out.size))
  have HF14_ := Lib.hid hf
  have HL14 := Lib.hid hr.2
  clear hr hf
  go_wp2_with fail
  refine (sameF_any _ _ _ _ _ _ w10 (HF13_.out.later HL14.out) HF14_.out).mono ?_
  rintro e w11 ⟨rfl, hb⟩
  have HB11 := Lib.hid (HB10.out.trans (hb.mono HB10.out.size))
  have HG11 := Lib.hid (HG10.out.trans (hb.mono HG10.out.size))
  clear hb
  simp only [decide_true]
  go_wp2_with fail
  refine (HNAM.out w11 HB11.out).mono ?_
  rintro e w12 ⟨u15, rfl, hr⟩
  have HG12 := Lib.hid (HG11.out.trans (hr.2.mono HG11.out.size))
  obtain ⟨b15, d15, rfl, hf⟩ := hr.words HWN.out
  have HB12 := Lib.hid (HB11.out.trans (hr.2.mono HB11.out.size))
  have HF15_ := Lib.hid hf
  have HL15 := Lib.hid hr.2
  clear hr hf
  go_wp2_with fail
  refine (HRNAM.out w12 HB12.out).mono ?_
  rintro e w13 ⟨u16, rfl, hr⟩
  have HG13 := Lib.hid (HG12.out.trans (hr.2.mono HG12.out.size))
  obtain ⟨b16, d16, rfl, hf⟩ := hr.words HWN.out
  have HB13 := Lib.hid (HB12.out.trans (hr.2.mono HB12.out.size))
  have HF16_ := Lib.hid hf
  have HL16 := Lib.hid hr.2
  clear hr hf
  go_wp2_with fail
  refine (texts_any _ _ _ _ _ _ w13 (HF15_.out.later HL16.out) HF16_.out).mono ?_
  rintro e w14 ⟨rfl, hb⟩
  have HB14 := Lib.hid (HB13.out.trans (hb.mono HB13.out.size))
  have HG14 := Lib.hid (HG13.out.trans (hb.mono HG13.out.size))
  clear hb
  simp only [decide_true]
  go_wp2_with fail
  refine (HVAL.out w14 HB14.out).mono ?_
  rintro e w15 ⟨u17, rfl, hr⟩
  have HG15 := Lib.hid (HG14.out.trans (hr.2.mono HG14.out.size))
  obtain ⟨b17, d17, rfl, hf⟩ := hr.words HWV.out
  have HB15 := Lib.hid (HB14.out.trans (hr.2.mono HB14.out.size))
  have HF17_ := Lib.hid hf
  have HL17 := Lib.hid hr.2
  clear hr hf
  go_wp2_with fail
  refine (HRVAL.out w15 HB15.out).mono ?_
  rintro e w16 ⟨u18, rfl, hr⟩
  have HG16 := Lib.hid (HG15.out.trans (hr.2.mono HG15.out.size))
  obtain ⟨b18, d18, rfl, hf⟩ := hr.words HWV.out
  have HB16 := Lib.hid (HB15.out.trans (hr.2.mono HB15.out.size))
  have HF18_ := Lib.hid hf
  have HL18 := Lib.hid hr.2
  clear hr hf
  go_wp2_with fail
  refine (texts_any _ _ _ _ _ _ w16 (HF17_.out.later HL18.out) HF18_.out).mono ?_
  rintro e w17 ⟨rfl, hb⟩
  have HB17 := Lib.hid (HB16.out.trans (hb.mono HB16.out.size))
  have HG17 := Lib.hid (HG16.out.trans (hb.mono HG16.out.size))
  clear hb
  simp only [decide_true]
  go_wp2_with fail
  have hb2 := HF2.out
  refine (sameF_any _ _ _ _ _ _ w17 (HFW.out w17 HB17.out) (HF2.out.later HG17.out)).mono ?_
  rintro e w18 ⟨rfl, hb⟩
  have HB18 := Lib.hid (HB17.out.trans (hb.mono HB17.out.size))
  clear hb hb2
  simp only [decide_true]
  go_wp2_with fail
  refine (HAW.out w18 HB18.out).mono ?_
  rintro e w19 ⟨rfl, hb⟩
  have HB19 := Lib.hid hb
  clear hb
  go_wp2_with fail
  go_ret
  exact ⟨rfl, HB19.out⟩
end Go.Proofs.Ytfbfejeccfoioaa
