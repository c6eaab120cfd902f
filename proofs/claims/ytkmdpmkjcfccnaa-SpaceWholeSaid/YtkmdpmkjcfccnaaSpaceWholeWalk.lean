/- The walk of the law SpaceWhole. -/
import Derived.Test.YtkmdpmkjcfccnaaSpcLaw
import Derived.Test.YtkmdpmkjcfccnaaSpcAll
namespace Go.Proofs.Ytkmdpmkjcfccnaa
open Go.RowKit Go.Shelf
attribute [local go_sem] Oper.semAt_some
set_option linter.unusedVariables false
set_option linter.unusedSimpArgs false

theorem app_all : ∀ (D acc : List Db.P), Db.AscP (acc ++ D) → Db.app acc (Db.all D) = acc ++ D
  | [], acc, _ => by simp [Db.app, Db.all]
  | p :: D, acc, h => by
    have h2 : Db.AscP ((acc ++ [p]) ++ D) := by rw [List.append_assoc]; exact h
    have hp : ∀ q ∈ acc, q.key < p.key := fun q hq => (List.pairwise_append.1 h).2.2 q hq p (List.mem_cons_self ..)
    have h1 : Db.app1 acc ⟨p.key, false, p.it⟩ = acc ++ [p] := by
      have := Db.app1_behind (l := acc) (db := []) (e := ⟨p.key, false, p.it⟩) hp
      rw [List.append_nil] at this
      rw [this]
      rfl
    have e : Db.app acc (Db.all (p :: D)) = Db.app (Db.app1 acc ⟨p.key, false, p.it⟩) (Db.all D) := rfl
    rw [e, h1, app_all D (acc ++ [p]) h2, List.append_assoc]
    rfl
/-- what a key is to have: its item, and whether. -/
def wantP (D : List Db.P) (es : List Db.E) (key : List UInt8) : It.I × Bool :=
  match Db.lastE es key with | some e => (e.it, !e.gone) | none => (((Db.raw D key).getD ⟨0, [], [], [], 0⟩), (Db.raw D key).isSome)
theorem lastE_snoc (es : List Db.E) (e : Db.E) (k : List UInt8) : Db.lastE (es ++ [e]) k = if e.key = k then some e else Db.lastE es k := by
  unfold Db.lastE
  rw [List.reverse_append]
  show List.find? _ (e :: es.reverse) = _
  rw [List.find?_cons]
  by_cases h : e.key = k <;> simp [h]
theorem wantP_snoc (D : List Db.P) (es : List Db.E) (e : Db.E) (k : List UInt8) : wantP D (es ++ [e]) k = if e.key = k then (e.it, !e.gone) else wantP D es k := by
  unfold wantP
  rw [lastE_snoc]
  by_cases h : e.key = k <;> simp [h]
theorem wantP_fin {D : List Db.P} (h : Db.AscP D) {es : List Db.E} (hz : ∀ e ∈ es, e.gone = true → e.it = ⟨0, [], [], [], 0⟩) (k : List UInt8) : ((Db.raw (Db.app D es) k).getD ⟨0, [], [], [], 0⟩, (Db.raw (Db.app D es) k).isSome) = wantP D es k := by
  rw [Db.raw_app h]
  unfold wantP
  cases hl : Db.lastE es k with
  | none => rfl
  | some e =>
    have hm : e ∈ es := by
      unfold Db.lastE at hl
      exact List.mem_reverse.1 (List.mem_of_find?_eq_some hl)
    unfold Db.seen
    by_cases hg : e.gone = true
    · simp [hz e hm hg, hg]
    · simp [hg]
theorem effT_zero {ns : List UInt8} {i : Nat} (h : (effT ns i).gone = true) : (effT ns i).it = ⟨0, [], [], [], 0⟩ := by
  have hg : decide ((ns.getD (i + 1) 0).toNat % 4 = 0) = true := h
  show (if decide ((ns.getD (i + 1) 0).toNat % 4 = 0) = true then _ else _) = _
  rw [hg, if_pos rfl]
/-- the want's box. -/
def WBox (w5 : World) (B : Nat) (v : It.I × Bool) (hv : Value) (W : World) : Prop :=
  ∃ q : Li, ItBox W B q.k q.s q.aF q.fs.length q.cF q.aL q.ws.length q.cL q.x ∧ q.Ok w5 ∧ q.i = v.1 ∧ hv = .bool v.2 ∧ Below w5.heap.size w5 W

set_option maxRecDepth 100000 in
set_option maxHeartbeats 8000000 in
theorem spaceWhole_walk (p : Option Addr) (cap : Nat) (ns : List UInt8) (p2 : Option Addr) (cap2 : Nat) (ms : List UInt8) (w : World) (hB : Bytes w p ns) (hl : ns.length ≤ cap) (hm : ns.length ≤ maxLen) (hB2 : Bytes w p2 ms) (hl2 : ms.length ≤ cap2) (hm2 : ms.length ≤ maxLen) :
    Calls Try.prog 5 #[.slice p ns.length cap, .slice p2 ms.length cap2] w fun e w' => e = .returned (.bool true) ∧ Below w.heap.size w w' := by
  have HAW := Lib.hid (fun W => awake_any W)
  by_cases hbig : 160 < ns.length
  · have k1 : (160 : Int) < (ns.length : Int) := by omega
    clear hB hB2
    go_enter Try.func5, Try.ntmps5
    go_wp2_with fail
    refine (HAW.out _).mono ?_
    rintro e wz ⟨rfl, hb⟩
    have HBZ := Lib.hid hb
    clear hb
    go_wp2_with fail
    go_ret
    exact ⟨rfl, HBZ.out⟩
  have k1 : ¬ (160 : Int) < (ns.length : Int) := by omega
  by_cases hbig2 : 80 < ms.length
  · have k2 : (80 : Int) < (ms.length : Int) := by omega
    clear hB hB2
    go_enter Try.func5, Try.ntmps5
    go_wp2_with fail
    refine (HAW.out _).mono ?_
    rintro e wz ⟨rfl, hb⟩
    have HBZ := Lib.hid hb
    clear hb
    go_wp2_with fail
    go_ret
    exact ⟨rfl, HBZ.out⟩
  have k2 : ¬ (80 : Int) < (ms.length : Int) := by omega
  have HMK := Lib.hid (spcMake_any p cap ns w hB hl (by omega))
  have HEF := Lib.hid (fun W (h : Below w.heap.size w W) => efs_any p2 cap2 ms W (hB2.later h) hl2 (by omega))
  have HB := Lib.hid (Below.refl w.heap.size w)
  clear hB hB2
  go_enter Try.func5, Try.ntmps5
  go_wp2_with fail
  refine (HMK.out).mono ?_
  rintro e w1 ⟨a, c, ps, rfl, hp, hn, hq, hb⟩
  have HK1 := Lib.hid hb
  clear hb
  replace HB := Lib.hid (HB.out.trans (HK1.out.mono HB.out.size))
  have HP := Lib.hid hp
  have HN := Lib.hid hn
  have HASP : Hid (Db.AscP (ps.map Lp.p)) := Lib.hid (by rw [hq]; exact numDb_asc ns)
  have HGD : Hid (∀ q ∈ ps, Gd q.p) := Lib.hid fun q h => numDb_gd ns q.p (by rw [← hq]; exact List.mem_map_of_mem h)
  have hlen : ps.length ≤ 40 := by have := numDb_len ns; rw [← hq, List.length_map] at this; exact this
  clear hp hn hq
  go_wp2_with fail
  refine (HEF.out _ HB.out).mono ?_
  rintro e w2 ⟨a2, c2, es, rfl, he, hn, hq, hb⟩
  have HK2 := Lib.hid hb
  clear hb
  replace HP := Lib.hid (HP.out.later HK2.out)
  replace HB := Lib.hid (HB.out.trans (HK2.out.mono HB.out.size))
  have HE := Lib.hid he
  have hel : es.length ≤ 40 := by have := numE_len ms; rw [← hq, List.length_map] at this; exact this
  have HSE : Hid (∀ e ∈ es, e.e.Sm) := Lib.hid fun e h => numE_sm (ns := ms) e.e (by rw [← hq]; exact List.mem_map_of_mem h)
  have HEZ : Hid (∀ e ∈ es.map Le.e, e.gone = true → e.it = ⟨0, [], [], [], 0⟩) := Lib.hid fun e h hg => by rw [hq] at h; obtain ⟨i, rfl⟩ := numE_mem h; exact effT_zero hg
  have HSM : Hid (∀ q ∈ ps, q.p.Sm) := Lib.hid fun q h => (HGD.out q h).sm
  have HAS := Lib.hid (AscP.l HASP.out)
  have HRG0 : Hid (∀ q ∈ Db.app (ps.map Lp.p) (es.map Le.e), Gd q) := Lib.hid (by rw [hq]; exact app_gd HASP.out (fun p2 h2 => by obtain ⟨q2, h3, rfl⟩ := List.mem_map.1 h2; exact HGD.out q2 h3) ms)
  clear he hn hq
  go_wp2_with fail
  refine (spall_any a c ps _ HP.out (by omega) HSM.out).mono ?_
  rintro e w3 ⟨a3, c3, fs, rfl, he, hn, hq, hb⟩
  have HK3 := Lib.hid hb
  clear hb
  replace HP := Lib.hid (HP.out.later HK3.out)
  replace HE := Lib.hid (HE.out.later HK3.out)
  replace HB := Lib.hid (HB.out.trans (HK3.out.mono HB.out.size))
  have HF := Lib.hid he
  have hfl : fs.length ≤ 40 := by have h1 := congrArg List.length hq; rw [show (Db.all (ps.map Lp.p)).length = ps.length by simp [Db.all], List.length_map] at h1; omega
  have hsf : ∀ e ∈ fs, e.e.Sm := fun e h => by
    have h1 : e.e ∈ fs.map Le.e := List.mem_map_of_mem h
    rw [hq] at h1
    unfold Db.all at h1
    rw [List.mem_map] at h1
    obtain ⟨x, hx, h2⟩ := h1
    obtain ⟨y, hy, rfl⟩ := List.mem_map.1 hx
    rw [← h2]
    exact HSM.out y hy
  have HSF := Lib.hid hsf
  clear hsf
  have HFQ := Lib.hid hq
  clear he hn hq
  go_wp2_with fail
  refine (sps_any none 0 [] a3 c3 fs _ (prs_nil _) HF.out (by simp) (by omega) (fun _ => rfl) (fun i j h h2 => by simp at h2) (by simp) HSF.out).mono ?_
  rintro e w4 ⟨a4, c4, qs, rfl, hp4, hn4, hq4, hb⟩
  have HK4 := Lib.hid hb
  clear hb
  replace HP := Lib.hid (HP.out.later HK4.out)
  replace HE := Lib.hid (HE.out.later HK4.out)
  replace HF := Lib.hid (HF.out.later HK4.out)
  replace HB := Lib.hid (HB.out.trans (HK4.out.mono HB.out.size))
  have hqq : qs.map Lp.p = ps.map Lp.p := by
    rw [hq4, HFQ.out]
    exact app_all (ps.map Lp.p) [] HASP.out
  have hql : qs.length ≤ 40 := by have h1 := congrArg List.length hqq; rw [List.length_map, List.length_map] at h1; omega
  have hss := spsame_any a4 c4 qs a c ps _ hp4 HP.out (by omega) (by omega)
  rw [hqq, sameS_self] at hss
  have HSS := Lib.hid hss
  clear hp4 hn4 hq4 hqq hss
  go_wp2_with fail
  refine (HSS.out).mono ?_
  rintro e w5 ⟨rfl, hb⟩
  have HK5 := Lib.hid hb
  clear hb
  replace HP := Lib.hid (HP.out.later HK5.out)
  replace HE := Lib.hid (HE.out.later HK5.out)
  replace HB := Lib.hid (HB.out.trans (HK5.out.mono HB.out.size))
  go_wp2_with fail
  refine (sps_any a c ps a2 c2 es _ HP.out HE.out (by omega) (by omega) HN.out HAS.out HSM.out HSE.out).mono ?_
  rintro e w6 ⟨a5, c5, rs, rfl, hp5, hn5, hq5, hb⟩
  have HK6 := Lib.hid hb
  clear hb
  replace HP := Lib.hid (HP.out.later HK6.out)
  replace HE := Lib.hid (HE.out.later HK6.out)
  replace HB := Lib.hid (HB.out.trans (HK6.out.mono HB.out.size))
  have HR := Lib.hid hp5
  have HRQ := Lib.hid hq5
  have hrl : rs.length ≤ 80 := by have h1 := app_len (es.map Le.e) (ps.map Lp.p); rw [← hq5] at h1; simp only [List.length_map] at h1; omega
  have HRA : Hid (AscL rs) := Lib.hid (AscP.l (by rw [hq5]; exact Db.app_asc HASP.out _))
  have HRS : Hid (∀ q ∈ rs, q.p.Sm) := Lib.hid fun q h => (HRG0.out q.p (by rw [← hq5]; exact List.mem_map_of_mem h)).sm
  clear hp5 hn5 hq5
  go_wp2_with fail
  go_loopw [8, 9, 10, 11, 12, 13, 14] (fun kv _ _ _ _ _ _ wr => ∃ k : Nat, k ≤ 20 ∧ kv = .int .i64 (k : Int) ∧ Hid (Below w6.heap.size w6 wr)) (fun kv _ _ _ _ _ _ _ => 20 - (intOf kv).toNat)
  case atStart => exact ⟨0, by omega, rfl, Lib.hid (Below.refl _ _)⟩
  case round =>
    obtain ⟨k, hk, rfl, HK0⟩ := hrel
    by_cases hk4 : k < 20
    · have k0 : (0 : Int) ≤ (k : Int) := by omega
      have k3 : (k : Int) < 20 := by omega
      have hwk : IntKind.u8.wrap (k : Int) = (k : Int) := IntWalk.u8_in _ (by omega)
      have hkl := keyT_len (k : Int)
      obtain ⟨wo, rfl⟩ : ∃ wo : World, wo = wr := ⟨_, rfl⟩
      go_wp2_with fail
      refine (key_any (k : Int) _ (by omega) (by omega)).mono ?_
      rintro e wk ⟨rfl, hb⟩
      have HK1 := Lib.hid (HK0.out.trans (hb.mono HK0.out.size))
      clear hb
      obtain ⟨key, hkey⟩ : ∃ key, keyT (k : Int) = key := ⟨_, rfl⟩
      rw [hkey] at hkl ⊢
      clear hkey
      go_wp2_with fail
      refine (spraw_any a c ps key _ (HP.out.later HK1.out) (by omega) HAS.out HSM.out).mono ?_
      rintro e wq ⟨o', rfl, ho', hok, hb, -⟩
      have HK2 := Lib.hid (HK1.out.trans (hb.mono HK1.out.size))
      have hraw := rawL_p ps key
      rw [← ho'] at hraw
      unfold gotT
      have hw0 : (o'.getD Li.zero).i = (wantP (ps.map Lp.p) ((es.take 0).map Le.e) key).1 ∧ o'.isSome = (wantP (ps.map Lp.p) ((es.take 0).map Le.e) key).2 := by
        show _ = ((Db.raw (ps.map Lp.p) key).getD _) ∧ _ = (Db.raw (ps.map Lp.p) key).isSome
        rw [← hraw]
        cases o' <;> exact ⟨rfl, rfl⟩
      obtain ⟨q, hq⟩ : ∃ q, o'.getD Li.zero = q := ⟨_, rfl⟩
      obtain ⟨g, hg⟩ : ∃ g, o'.isSome = g := ⟨_, rfl⟩
      rw [hq, hg] at hw0
      rw [hq] at hok
      rw [hq, hg]
      have HW0 := Lib.hid hw0
      have HQO := Lib.hid (show q.Ok wq from hok)
      clear ho' hok hb hraw hw0 hq hg
      obtain ⟨wb, hwb⟩ : ∃ wb, wq.alloc (.cells #[.int .i64 q.k, .string ⟨q.s.toArray⟩, .slice q.aF q.fs.length q.cF, .slice q.aL q.ws.length q.cL, .int .i64 q.x] 31) = wb := ⟨_, rfl⟩
      have hbb : Below wq.heap.size wq wb := by rw [← hwb]; exact (Below.refl _ wq).alloc (Nat.le_refl _) _
      have hbx : ItBox wb wq.heap.size q.k q.s q.aF q.fs.length q.cF q.aL q.ws.length q.cL q.x := by rw [← hwb]; exact ItBox.new wq q.k q.s q.aF q.fs.length q.cF q.aL q.ws.length q.cL q.x
      have HWB := Lib.hid hwb
      have HBX0 : Hid (WBox wq wq.heap.size (wantP (ps.map Lp.p) ((es.take 0).map Le.e) key) (.bool g) wb) := Lib.hid ⟨q, hbx, HQO.out, HW0.out.1, by rw [HW0.out.2], hbb⟩
      have HEq := Lib.hid (HE.out.later HK2.out)
      have HRq := Lib.hid (HR.out.later HK2.out)
      clear hwb hbb hbx
      go_upto_region 12 with (fail)
      rw [show wq.alloc (.cells #[.int .i64 q.k, .string ⟨q.s.toArray⟩, .slice q.aF q.fs.length q.cF, .slice q.aL q.ws.length q.cL, .int .i64 q.x] 31) = wb from HWB.out]
      clear HWB
      go_wp2_with fail
      go_loopw [11, 12] (fun hv iv wr => ∃ i : Nat, i ≤ es.length ∧ iv = .int .i64 (i : Int) ∧ Hid (WBox wq wq.heap.size (wantP (ps.map Lp.p) ((es.take i).map Le.e) key) hv wr)) (fun _ iv _ => es.length - (intOf iv).toNat)
      case atStart => exact ⟨0, Nat.zero_le _, rfl, HBX0⟩
      case round =>
        obtain ⟨i, hi, rfl, HX⟩ := hrel
        obtain ⟨r, hrb, hro, hri, rfl, hrw⟩ := HX.out
        by_cases hlt : i < es.length
        · obtain ⟨b, off, rfl, hbl, hc⟩ := HEq.out.get (by omega)
          have hq0 := (hc i hlt).later hbl hrw
          have hok := HEq.out.at hlt
          have HT := Lib.hid (show (es.take (i + 1)).map Le.e = (es.take i).map Le.e ++ [(es.getD i Le.zero).e] by rw [take_succ_getD (d := Le.zero) hlt, List.map_append]; rfl)
          obtain ⟨⟨ekey, gone, ⟨ek, s, aF, fs2, cF, aL, ws, cL, x⟩⟩, hq⟩ : ∃ q, es.getD i Le.zero = q := ⟨_, rfl⟩
          rw [hq] at hq0 hok HT
          obtain ⟨q0, q1, q2, q3, q4, q5, q6⟩ := hq0
          simp only at q0 q1 q2 q3 q4 q5 q6
          have HOK := Lib.hid hok
          have HRB := Lib.hid hrb
          have HRO := Lib.hid hro
          have HRI := Lib.hid hri
          have HRW := Lib.hid hrw
          have i0 : (0 : Int) ≤ (i : Int) := by omega
          have i1 : (i : Int) < (es.length : Int) := by omega
          have hbne : b ≠ wq.heap.size := by omega
          have HWS : Hid (wantP (ps.map Lp.p) ((es.take (i + 1)).map Le.e) key = if ekey = key then (⟨ek, s, fs2, ws, x⟩, !gone) else wantP (ps.map Lp.p) ((es.take i).map Le.e) key) := Lib.hid (by rw [HT.out]; exact wantP_snoc (ps.map Lp.p) ((es.take i).map Le.e) ⟨ekey, gone, ⟨ek, s, fs2, ws, x⟩⟩ key)
          clear hc hok hq hro hri hrw HX
          by_cases hkk : ekey = key
          · have e1 : (ekey == key) = true := by simp [hkk]
            have HKK := Lib.hid hkk
            obtain ⟨z0, z1, z2, z3, z4⟩ := hrb.at
            obtain ⟨f0, f1, f2, f3, f4⟩ := hrb.free
            have hst := hrb.store ek s aF fs2.length cF aL ws.length cL x
            have hkp : Below wq.heap.size wq (stIt wr wq.heap.size ek s aF fs2.length cF aL ws.length cL x) := (Keeps.stIt (S := fun k => k < wq.heap.size) (Keeps.of_below HRW.out fun k hk _ => hk) (.inl (Nat.le_refl _)) ek s aF fs2.length cF aL ws.length cL x).below (Nat.le_refl _) fun k hk => hk
            have u1 := (far5 (w := wr) (o := off + i * 7 + 1) hbne (.int .i64 ek) (.string ⟨s.toArray⟩) (.slice aF fs2.length cF) (.slice aL ws.length cL) (.int .i64 x)).trans q1
            have HST : Hid (WBox wq wq.heap.size (wantP (ps.map Lp.p) ((es.take (i + 1)).map Le.e) key) (.bool (!gone)) (stIt wr wq.heap.size ek s aF fs2.length cF aL ws.length cL x)) := Lib.hid ⟨⟨ek, s, aF, fs2, cF, aL, ws, cL, x⟩, hst, HOK.out.2, by rw [HWS.out, if_pos HKK.out]; rfl, by rw [HWS.out, if_pos HKK.out], hkp⟩
            clear hrb hst hkp hkk
            go_wp2_with fail
            go_roundw
            case rel => exact ⟨i + 1, by omega, by go_num, HST⟩
            case measure => simp [intOf]; omega
          · have e1 : (ekey == key) = false := by simp [hkk]
            have HKK := Lib.hid hkk
            have HST : Hid (WBox wq wq.heap.size (wantP (ps.map Lp.p) ((es.take (i + 1)).map Le.e) key) (.bool (wantP (ps.map Lp.p) ((es.take i).map Le.e) key).2) wr) := Lib.hid ⟨r, HRB.out, HRO.out, by rw [HWS.out, if_neg HKK.out]; exact HRI.out, by rw [HWS.out, if_neg HKK.out], HRW.out⟩
            clear hrb
            go_wp2_with fail
            go_roundw
            case rel => exact ⟨i + 1, by omega, by go_num, HST⟩
            case measure => simp [intOf]; omega
        · obtain rfl : i = es.length := by omega
          have i1 : ¬ (es.length : Int) < (es.length : Int) := by omega
          have hfin := wantP_fin HASP.out HEZ.out key
          rw [List.take_length] at hri ⊢
          rw [← hfin, ← HRQ.out, ← rawL_p] at hri ⊢
          have HRB := Lib.hid hrb
          have HRO := Lib.hid hro
          have HRI := Lib.hid hri
          have HRW := Lib.hid hrw
          clear hrb hro hri hrw hfin HX
          obtain ⟨hv, hhv⟩ : ∃ hv, ((rawL rs key).map Li.i).isSome = hv := ⟨_, rfl⟩
          rw [hhv]
          go_wp2_with fail
          refine (spraw_any a5 c5 rs key _ (HRq.out.later HRW.out) (by omega) HRA.out HRS.out).mono ?_
          rintro e wx ⟨o2, rfl, ho2, hok2, hb2, -⟩
          have hgi : (o2.getD Li.zero).i = r.i ∧ o2.isSome = hv := by
            obtain ⟨h1, h2⟩ := got_eq ho2
            refine ⟨?_, ?_⟩
            · rw [h1, HRI.out]
              cases rawL rs key <;> rfl
            · rw [h2, ← hhv, Option.isSome_map]
          unfold gotT
          obtain ⟨q2, hq2⟩ : ∃ q2, o2.getD Li.zero = q2 := ⟨_, rfl⟩
          obtain ⟨g2, hg2⟩ : ∃ g2, o2.isSome = g2 := ⟨_, rfl⟩
          rw [hq2, hg2] at hgi
          rw [hq2] at hok2
          rw [hq2, hg2]
          obtain ⟨hgi1, hgi2⟩ := hgi
          subst hgi2
          have hok3 : q2.Ok wx := hok2
          obtain ⟨wy, hwy⟩ : ∃ wy, wx.alloc (.cells #[.int .i64 q2.k, .string ⟨q2.s.toArray⟩, .slice q2.aF q2.fs.length q2.cF, .slice q2.aL q2.ws.length q2.cL, .int .i64 q2.x] 31) = wy := ⟨_, rfl⟩
          have hby : Below wx.heap.size wx wy := by rw [← hwy]; exact (Below.refl _ wx).alloc (Nat.le_refl _) _
          have hbx : ItBox wy wx.heap.size q2.k q2.s q2.aF q2.fs.length q2.cF q2.aL q2.ws.length q2.cL q2.x := by rw [← hwy]; exact ItBox.new wx q2.k q2.s q2.aF q2.fs.length q2.cF q2.aL q2.ws.length q2.cL q2.x
          have hb3 : Below wr.heap.size wr wy := hb2.trans (hby.mono hb2.size)
          have hrb2 := HRB.out.later hb3
          have hb4 : Below wq.heap.size wq wy := HRW.out.trans (hb3.mono HRW.out.size)
          have hsi := sameI_any q2 r wy (hok3.later hby) (HRO.out.later hb4)
          rw [show It.sameB q2.i r.i = true by rw [hgi1]; exact It.same_self _] at hsi
          have HSI := Lib.hid hsi
          have HWY := Lib.hid hwy
          have HB4 := Lib.hid (HK2.out.trans (hb4.mono HK2.out.size))
          obtain ⟨z0, z1, z2, z3, z4⟩ := hbx.at
          obtain ⟨y0, y1, y2, y3, y4⟩ := hrb2.at
          clear ho2 hok2 hb2 hgi1 hok3 hwy hby hbx hb3 hrb2 hb4 hsi hq2 hg2 hhv
          go_upto_region 19 with (fail)
          rw [show wx.alloc (.cells #[.int .i64 q2.k, .string ⟨q2.s.toArray⟩, .slice q2.aF q2.fs.length q2.cF, .slice q2.aL q2.ws.length q2.cL, .int .i64 q2.x] 31) = wy from HWY.out]
          clear HWY
          go_wp2_with fail
          refine HSI.out.mono ?_
          rintro e wz ⟨rfl, hbz⟩
          have HB5 := Lib.hid (HB4.out.trans (hbz.mono HB4.out.size))
          clear hbz z0 z1 z2 z3 z4 y0 y1 y2 y3 y4
          go_wp2_with fail
          go_roundw
          case rel => exact ⟨k + 1, by omega, by go_num, HB5⟩
          case measure => simp [intOf]; omega
    · obtain rfl : k = 20 := by omega
      have HB7 := Lib.hid (HB.out.trans (HK0.out.mono HB.out.size))
      go_wp2_with fail
      refine (HAW.out _).mono ?_
      rintro e wz ⟨rfl, hb⟩
      have HBZ := Lib.hid (HB7.out.trans (hb.mono HB7.out.size))
      clear hb
      go_wp2_with fail
      go_ret
      exact ⟨rfl, HBZ.out⟩
end Go.Proofs.Ytkmdpmkjcfccnaa
