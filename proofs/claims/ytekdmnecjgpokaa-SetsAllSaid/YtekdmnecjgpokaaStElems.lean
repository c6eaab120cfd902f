/- The contracts of sets.elements and of the iterator that it hands out. -/
import Derived.Test.YtekdmnecjgpokaaStLeast
import Derived.RegionIn
namespace Go.Proofs.Ytekdmnecjgpokaa
open Go.RowKit Go.Shelf
attribute [local go_sem] Oper.semAt_some
set_option linter.unusedVariables false
set_option linter.unusedSimpArgs false

/-- an element with its sides, as yield takes it. -/
def encM (x : St.El) : Array Value := #[.string ⟨x.1.toArray⟩, .agg #[.bool x.2.1, .bool x.2.2]]
/-- of no great length. -/
def OkM (x : St.El) : Prop := OkW x.1

set_option maxHeartbeats 1000000 in
theorem elements_any (va vb : Value) (w : World) (a b : Option Addr) (n m ca cb : Nat) (ha : va = .slice a n ca) (hb : vb = .slice b m cb) :
    CallsIn Fence.wide 0 Try.prog 39 #[va, vb] w fun e w' =>
      e = .returned (.func (.func 45) #[] #[.pointer (some ⟨w.heap.size, 0, none⟩), .pointer (some ⟨w.heap.size + 1, 0, none⟩)]) ∧
      w' = (w.alloc (.cells #[.slice a n ca] 25)).alloc (.cells #[.slice b m cb] 25) := by
  subst ha hb
  refine callsIn_of_wp Try.func39 rfl trivial ?_ rfl
  simp only [Try.ntmps39, List.size_toArray, List.length_cons, List.length_nil, Nat.reduceAdd, Nat.reduceSub, Array.replicate_succ, Array.replicate_zero, List.push_toArray, List.append_toArray, List.nil_append, List.cons_append]
  gi_wp2
  go_ret
  exact ⟨rfl, rfl⟩

/-- the length of a slice. -/
def lenOf : Value → Nat
  | .slice _ n _ => n
  | _ => 0
/-- a slice cut k times at its head. -/
def CutV (a : Option Addr) (n k : Nat) (v : Value) : Prop := k ≤ n ∧ ∃ a' c', v = .slice a' (n - k) c' ∧ (k < n → (∃ b off, a = some ⟨b, off, none⟩ ∧ a' = some ⟨b, off + k, none⟩) ∧ n - k ≤ c' ∧ c' ≤ 9223372036854775807)

theorem cutV_zero {w : World} {a : Option Addr} {cap : Nat} {ws : List St.Bs} (h : Wds w a cap ws) : CutV a ws.length 0 (.slice a ws.length cap) := by
  refine ⟨Nat.zero_le _, a, cap, by simp, fun h0 => ?_⟩
  obtain ⟨b, off, ha, -, -⟩ := h.get h0
  exact ⟨⟨b, off, ha, by simpa using ha⟩, by have := h.1; omega, h.2.1⟩

theorem cutV_next {a : Option Addr} {n0 k b off0 off n c : Nat} (hk : k < n0) (hn : n0 - k = n) (ha : a = some ⟨b, off0, none⟩) (ho : off0 + k = off) (h1 : n ≤ c) (h2 : c ≤ 9223372036854775807) :
    CutV a n0 (k + 1) (.slice (if c = 1 then some ⟨b, off, none⟩ else some ⟨b, off + 1, none⟩) (n - 1) (c - 1)) := by
  refine ⟨hk, _, c - 1, by rw [show n0 - (k + 1) = n - 1 by omega], fun h => ⟨⟨b, off0, ha, ?_⟩, by omega, by omega⟩⟩
  rw [if_neg (by omega), ← ho]
  rfl
theorem cutV_same {a : Option Addr} {n0 k b off0 off n c : Nat} (hk : k < n0) (hn : n0 - k = n) (ha : a = some ⟨b, off0, none⟩) (ho : off0 + k = off) (h1 : n ≤ c) (h2 : c ≤ 9223372036854775807) : CutV a n0 k (.slice (some ⟨b, off, none⟩) n c) :=
  ⟨by omega, _, c, by rw [hn], fun h => ⟨⟨b, off0, ha, by rw [← ho]⟩, by omega, h2⟩⟩
theorem cutV_end {a a' : Option Addr} {n0 k c : Nat} (hk : k ≤ n0) (hn : n0 - k = 0) : CutV a n0 k (.slice a' 0 c) := ⟨hk, a', c, by rw [hn], fun h => by omega⟩

theorem drop_getD {l : List St.Bs} {k : Nat} (h : k < l.length) : l.drop k = l.getD k [] :: l.drop (k + 1) := by
  rw [List.drop_eq_getElem_cons h, getD_eq h]

set_option maxRecDepth 100000 in
set_option maxHeartbeats 4000000 in
theorem elements_seq (Bx : Nat) (a b : Option Addr) (ca cb : Nat) (xs ys : List St.Bs) (w : World) (h1 : Boxed w Bx 25 (.slice a xs.length ca)) (h1' : Boxed w (Bx + 1) 25 (.slice b ys.length cb)) (h2 : Wds w a ca xs) (h3 : Wds w b cb ys) (hn : xs.length ≤ 500000) (hm : ys.length ≤ 500000) (hok : ∀ s ∈ xs, OkW s) (hok2 : ∀ s ∈ ys, OkW s) (Dt : Nat → Prop) (hDx : ∀ b' off, a = some ⟨b', off, none⟩ → 0 < xs.length → Dt b') (hDy : ∀ b' off, b = some ⟨b', off, none⟩ → 0 < ys.length → Dt b') :
    SeqB OkM false Try.prog 45 #[.pointer (some ⟨Bx, 0, none⟩), .pointer (some ⟨Bx + 1, 0, none⟩)] encM Dt (fun _ => False) (fun zs => zs = St.mrg xs ys) (fun _ => False) (xs.length + ys.length) w := by
  intro l J Jx W hW hJ _ hst hY h0
  have HX : Hid (∀ O s A, ¬ Jx O s A) := Lib.hid (hst rfl)
  have HB : Boxed W Bx 25 (.slice a xs.length ca) := (hW.block _ h1.lt).trans h1
  have HB' : Boxed W (Bx + 1) 25 (.slice b ys.length cb) := (hW.block _ h1'.lt).trans h1'
  have HWx := Lib.hid h2
  have HWy := Lib.hid h3
  have HBl := Lib.hid hW
  have z0 := HB.cell
  have z1 := HB'.cell
  have HY := Lib.hid hY
  have hWs := hW.size
  have HA := Lib.hid hJ
  clear h1 h1' HB HB' hY h2 h3 hJ hW hst
  refine callsIn_of_wp Try.func45 rfl trivial ?_ rfl
  simp only [Try.ntmps45, List.size_toArray, List.length_cons, List.length_nil, Nat.reduceAdd, Nat.reduceSub, Array.replicate_succ, Array.replicate_zero, List.push_toArray, List.append_toArray, List.nil_append, List.cons_append]
  gi_wp2
  gi_region
  gi_wp2
  gi_loopw [4, 5] (fun v4 v5 wr => ∃ (i j : Nat) (O : Nat → Prop) (pre : List St.El), CutV a xs.length i v4 ∧ CutV b ys.length j v5 ∧ (∀ k, O k → W.heap.size ≤ k ∧ k < wr.heap.size) ∧ J O pre wr ∧ Hid (Keeps Dt W wr) ∧ W.heap.size ≤ wr.heap.size ∧ Hid (pre ++ St.mrg (xs.drop i) (ys.drop j) = St.mrg xs ys) ∧ pre.length ≤ i + j) (fun v4 v5 _ => lenOf v4 + lenOf v5)
  case atStart =>
    exact ⟨0, 0, fun _ => False, [], cutV_zero HWx.out, cutV_zero HWy.out, fun _ h => h.elim, HA.out _ _ _ _ h0 ((Keeps.refl _ _).drew), Lib.hid ((Keeps.refl _ _).drew), Nat.le_refl _, Lib.hid (by simp), Nat.le_refl _⟩
  case round =>
    obtain ⟨i, j, O, pre, ⟨hi, a1, c1, rfl, h1⟩, ⟨hj, a2, c2, rfl, h2⟩, hO, hJs, HK, hsz, HM, hpl⟩ := hrel
    have HO := Lib.hid hO
    have HJs := Lib.hid hJs
    clear hO hJs h0 z0 z1
    obtain ⟨n, hn1⟩ : ∃ n, xs.length - i = n := ⟨_, rfl⟩
    obtain ⟨m, hm1⟩ : ∃ m, ys.length - j = m := ⟨_, rfl⟩
    rw [hn1] at h1 ⊢
    rw [hm1] at h2 ⊢
    have cellx : ∀ b off, a = some ⟨b, off, none⟩ → i < xs.length → wr.cell? ⟨b, off + i, none⟩ = some (.string ⟨(xs.getD i []).toArray⟩) := fun b off ha hlt => by
      obtain ⟨b', off', ha', hb, hc⟩ := HWx.out.get (by omega)
      rw [ha] at ha'
      cases ha'
      exact ((HK.out.cell (p := ⟨b, off + i, none⟩) (by simp; omega) (hDx b off ha (by omega))).trans (HBl.out.cell (p := ⟨b, off + i, none⟩) hb)).trans (hc i hlt)
    have celly : ∀ b' off, b = some ⟨b', off, none⟩ → j < ys.length → wr.cell? ⟨b', off + j, none⟩ = some (.string ⟨(ys.getD j []).toArray⟩) := fun b' off ha hlt => by
      obtain ⟨b'', off', ha', hb, hc⟩ := HWy.out.get (by omega)
      rw [ha] at ha'
      cases ha'
      exact ((HK.out.cell (p := ⟨b', off + j, none⟩) (by simp; omega) (hDy b' off ha (by omega))).trans (HBl.out.cell (p := ⟨b', off + j, none⟩) hb)).trans (hc j hlt)
    rcases Nat.eq_zero_or_pos n with hn0 | hn0
    · have hxn : xs.drop i = [] := List.drop_eq_nil_of_le (by omega)
      rcases Nat.eq_zero_or_pos m with hm0 | hm0
      · have HE : Hid (pre = St.mrg xs ys) := Lib.hid (by
          rw [← HM.out, hxn, List.drop_eq_nil_of_le (by omega), St.mrg_nil, List.append_nil])
        subst hn0 hm0
        clear cellx celly h1 h2 hxn
        gi_wp2
        refine bodyPost_end (results_none rfl _ _ _) rfl ?_
        exact ⟨⟨_, rfl⟩, hsz, O, HO.out, .inl ⟨_, HE.out, HJs.out⟩⟩
      · obtain ⟨⟨bb, ob0, eb, rfl⟩, hy1, hy2⟩ := h2 (by omega)
        have cy := celly bb ob0 eb (by omega)
        obtain ⟨y, hy⟩ : ∃ y, ys.getD j [] = y := ⟨_, rfl⟩
        have hoky : OkW y := hy ▸ hok2 _ (by rw [getD_eq (by omega)]; exact List.getElem_mem (by omega))
        have hdy : ys.drop j = y :: ys.drop (j + 1) := hy ▸ drop_getD (by omega)
        rw [hy] at cy
        obtain ⟨ob, hob⟩ : ∃ ob, ob0 + j = ob := ⟨_, rfl⟩
        rw [hob] at cy ⊢
        have HOb := Lib.hid hob
        have HEb := Lib.hid eb
        have stR : (pre ++ [(y, false, true)]) ++ St.mrg (xs.drop i) (ys.drop (j + 1)) = St.mrg xs ys := by
          rw [← HM.out, hdy, hxn, St.mrg_right, List.append_assoc]
          rfl
        subst hn0
        clear hy hdy hob eb celly hxn cellx h1
        have HL := Lib.hid (callsIn_wide (n := 0) |>.2 (least_right bb ob m c2 a1 c1 y wr hm0 (by omega) cy))
        have HOK : Hid (OkW y) := Lib.hid (hoky)
        have HST := Lib.hid (stR)
        have hmmI : (m : Int) ≤ 500000 := by omega
        have hB1 : (1 : Int) ≤ (m : Int) := by omega
        have hB0 : (0 : Int) < (m : Int) := by omega
        gi_wp2_with fail
        refine ⟨trivial, rfl, ?_⟩
        refine HL.out.mono ?_
        rintro e w2 ⟨rfl, hb2⟩
        have HB2 := Lib.hid hb2
        have hz2 := hb2.size
        clear hb2 HL
        obtain ⟨W1, hW1⟩ : ∃ W1, w2.alloc (.cells #[.bool false, .bool true] 49) = W1 := ⟨_, rfl⟩
        have hbx : SdBox W1 w2.heap.size false true := by rw [← hW1]; exact SdBox.new w2 false true
        have hk1 : ∀ S, Keeps S wr W1 := fun S => by rw [← hW1]; exact (Keeps.of_below HB2.out fun _ h _ => h).alloc _
        have hz1 := (hk1 fun _ => True).size
        have hzb := hbx.lt
        obtain ⟨fn, tmps, assign, body, hy, hR⟩ := HY.out O pre (y, false, true) W1 (fun k hk => ⟨(HO.out k hk).1, Nat.lt_of_lt_of_le (HO.out k hk).2 hz1⟩) (Nat.le_trans hsz hz1) (HA.out _ _ _ _ HJs.out (hk1 _)) (by omega) HOK.out
        have HR := Lib.hid hR
        have HBx := Lib.hid hbx
        have HK1 := Lib.hid hk1
        unfold encM at hy
        simp only at hy
        rw [← hW1] at hy
        have HW1 := Lib.hid hW1
        clear hR hbx hk1 hW1
        gi_wp2
        refine ⟨rfl, ?_⟩
        rw [HW1.out]
        refine HR.out.mono ?_
        rintro e W3 ⟨hk3, O', hg3, hout⟩
        rcases hout with ⟨rfl, hJ3⟩ | ⟨rfl, hJx3⟩
        rotate_left
        · exact (HX.out _ _ _ hJx3).elim
        obtain ⟨hO', hK3⟩ := round_next (W := W) HO.out hz1 hsz rfl (HK.out.trans (HK1.out _)) hk3 hg3
        have hb3 : SdBox W3 w2.heap.size false true := HBx.out.keep hk3 (.inr (.inr ⟨by omega, fun h => by have := (HO.out _ h).2; omega⟩))
        obtain ⟨d0, d1, -, -⟩ := hb3.at
        have HK3 := Lib.hid hK3
        have HO3 := Lib.hid hO'
        have hs3 := hK3.size
        have HJ3 := Lib.hid hJ3
        clear hk3 hg3 hK3 hO' hJ3 hb3 hy HR HBx HK1 HW1
        gi_wp2
        go_roundw
        case rel => exact ⟨i, j + 1, O', pre ++ [(y, false, true)], cutV_end hi hn1, cutV_next (by omega) hm1 HEb.out HOb.out hy1 hy2, HO3.out, HJ3.out, HK3, hs3, HST, by rw [List.length_append, List.length_singleton]; omega⟩
        case measure => simp [lenOf]; omega
    · obtain ⟨⟨ba, oa0, ea, rfl⟩, hx1, hx2⟩ := h1 (by omega)
      have cx := cellx ba oa0 ea (by omega)
      obtain ⟨x, hx⟩ : ∃ x, xs.getD i [] = x := ⟨_, rfl⟩
      have hokx : OkW x := hx ▸ hok _ (by rw [getD_eq (by omega)]; exact List.getElem_mem (by omega))
      have hdx : xs.drop i = x :: xs.drop (i + 1) := hx ▸ drop_getD (by omega)
      rw [hx] at cx
      have HDx := Lib.hid hdx
      obtain ⟨oa, hoa⟩ : ∃ oa, oa0 + i = oa := ⟨_, rfl⟩
      rw [hoa] at cx ⊢
      have HOa := Lib.hid hoa
      have HEa := Lib.hid ea
      clear hx hdx hoa ea cellx
      rcases Nat.eq_zero_or_pos m with hm0 | hm0
      · have hyn : ys.drop j = [] := List.drop_eq_nil_of_le (by omega)
        have stL : (pre ++ [(x, true, false)]) ++ St.mrg (xs.drop (i + 1)) (ys.drop j) = St.mrg xs ys := by
          rw [← HM.out, HDx.out, hyn, St.mrg_left, List.append_assoc]
          rfl
        subst hm0
        clear hyn celly h2
        have HL := Lib.hid (callsIn_wide (n := 0) |>.2 (least_left ba oa n c1 a2 c2 x wr hn0 (by omega) cx))
        have HOK : Hid (OkW x) := Lib.hid (hokx)
        have HST := Lib.hid (stL)
        have hnmI : (n : Int) ≤ 500000 := by omega
        have hA1 : (1 : Int) ≤ (n : Int) := by omega
        have hA0 : (0 : Int) < (n : Int) := by omega
        gi_wp2_with fail
        refine ⟨trivial, rfl, ?_⟩
        refine HL.out.mono ?_
        rintro e w2 ⟨rfl, hb2⟩
        have HB2 := Lib.hid hb2
        have hz2 := hb2.size
        clear hb2 HL
        obtain ⟨W1, hW1⟩ : ∃ W1, w2.alloc (.cells #[.bool true, .bool false] 49) = W1 := ⟨_, rfl⟩
        have hbx : SdBox W1 w2.heap.size true false := by rw [← hW1]; exact SdBox.new w2 true false
        have hk1 : ∀ S, Keeps S wr W1 := fun S => by rw [← hW1]; exact (Keeps.of_below HB2.out fun _ h _ => h).alloc _
        have hz1 := (hk1 fun _ => True).size
        have hzb := hbx.lt
        obtain ⟨fn, tmps, assign, body, hy, hR⟩ := HY.out O pre (x, true, false) W1 (fun k hk => ⟨(HO.out k hk).1, Nat.lt_of_lt_of_le (HO.out k hk).2 hz1⟩) (Nat.le_trans hsz hz1) (HA.out _ _ _ _ HJs.out (hk1 _)) (by omega) HOK.out
        have HR := Lib.hid hR
        have HBx := Lib.hid hbx
        have HK1 := Lib.hid hk1
        unfold encM at hy
        simp only at hy
        rw [← hW1] at hy
        have HW1 := Lib.hid hW1
        clear hR hbx hk1 hW1
        gi_wp2
        refine ⟨rfl, ?_⟩
        rw [HW1.out]
        refine HR.out.mono ?_
        rintro e W3 ⟨hk3, O', hg3, hout⟩
        rcases hout with ⟨rfl, hJ3⟩ | ⟨rfl, hJx3⟩
        rotate_left
        · exact (HX.out _ _ _ hJx3).elim
        obtain ⟨hO', hK3⟩ := round_next (W := W) HO.out hz1 hsz rfl (HK.out.trans (HK1.out _)) hk3 hg3
        have hb3 : SdBox W3 w2.heap.size true false := HBx.out.keep hk3 (.inr (.inr ⟨by omega, fun h => by have := (HO.out _ h).2; omega⟩))
        obtain ⟨d0, d1, -, -⟩ := hb3.at
        have HK3 := Lib.hid hK3
        have HO3 := Lib.hid hO'
        have hs3 := hK3.size
        have HJ3 := Lib.hid hJ3
        clear hk3 hg3 hK3 hO' hJ3 hb3 hy HR HBx HK1 HW1
        gi_wp2
        go_roundw
        case rel => exact ⟨i + 1, j, O', pre ++ [(x, true, false)], cutV_next (by omega) hn1 HEa.out HOa.out hx1 hx2, cutV_end hj hm1, HO3.out, HJ3.out, HK3, hs3, HST, by rw [List.length_append, List.length_singleton]; omega⟩
        case measure => simp [lenOf]; omega
      · obtain ⟨⟨bb, ob0, eb, rfl⟩, hy1, hy2⟩ := h2 (by omega)
        have cy := celly bb ob0 eb (by omega)
        obtain ⟨y, hy⟩ : ∃ y, ys.getD j [] = y := ⟨_, rfl⟩
        have hoky : OkW y := hy ▸ hok2 _ (by rw [getD_eq (by omega)]; exact List.getElem_mem (by omega))
        have hdy : ys.drop j = y :: ys.drop (j + 1) := hy ▸ drop_getD (by omega)
        rw [hy] at cy
        have HDy := Lib.hid hdy
        obtain ⟨ob, hob⟩ : ∃ ob, ob0 + j = ob := ⟨_, rfl⟩
        rw [hob] at cy ⊢
        have HOb := Lib.hid hob
        have HEb := Lib.hid eb
        clear hy hdy hob eb celly
        by_cases hlt : x < y
        · have stl : (pre ++ [(x, true, false)]) ++ St.mrg (xs.drop (i + 1)) (ys.drop j) = St.mrg xs ys := by
            rw [← HM.out, HDx.out, HDy.out, St.mrg_lt hlt, List.append_assoc]
            rfl
          have HL := Lib.hid (callsIn_wide (n := 0) |>.2 (least_lt ba oa n c1 bb ob m c2 x y wr hn0 (by omega) hm0 (by omega) cx cy hlt))
          have HOK : Hid (OkW x) := Lib.hid (hokx)
          have HST := Lib.hid (stl)
          have hnmI : (n : Int) ≤ 500000 := by omega
          have hA1 : (1 : Int) ≤ (n : Int) := by omega
          have hA0 : (0 : Int) < (n : Int) := by omega
          gi_wp2_with fail
          refine ⟨trivial, rfl, ?_⟩
          refine HL.out.mono ?_
          rintro e w2 ⟨rfl, hb2⟩
          have HB2 := Lib.hid hb2
          have hz2 := hb2.size
          clear hb2 HL
          obtain ⟨W1, hW1⟩ : ∃ W1, w2.alloc (.cells #[.bool true, .bool false] 49) = W1 := ⟨_, rfl⟩
          have hbx : SdBox W1 w2.heap.size true false := by rw [← hW1]; exact SdBox.new w2 true false
          have hk1 : ∀ S, Keeps S wr W1 := fun S => by rw [← hW1]; exact (Keeps.of_below HB2.out fun _ h _ => h).alloc _
          have hz1 := (hk1 fun _ => True).size
          have hzb := hbx.lt
          obtain ⟨fn, tmps, assign, body, hy, hR⟩ := HY.out O pre (x, true, false) W1 (fun k hk => ⟨(HO.out k hk).1, Nat.lt_of_lt_of_le (HO.out k hk).2 hz1⟩) (Nat.le_trans hsz hz1) (HA.out _ _ _ _ HJs.out (hk1 _)) (by omega) HOK.out
          have HR := Lib.hid hR
          have HBx := Lib.hid hbx
          have HK1 := Lib.hid hk1
          unfold encM at hy
          simp only at hy
          rw [← hW1] at hy
          have HW1 := Lib.hid hW1
          clear hR hbx hk1 hW1
          gi_wp2
          refine ⟨rfl, ?_⟩
          rw [HW1.out]
          refine HR.out.mono ?_
          rintro e W3 ⟨hk3, O', hg3, hout⟩
          rcases hout with ⟨rfl, hJ3⟩ | ⟨rfl, hJx3⟩
          rotate_left
          · exact (HX.out _ _ _ hJx3).elim
          obtain ⟨hO', hK3⟩ := round_next (W := W) HO.out hz1 hsz rfl (HK.out.trans (HK1.out _)) hk3 hg3
          have hb3 : SdBox W3 w2.heap.size true false := HBx.out.keep hk3 (.inr (.inr ⟨by omega, fun h => by have := (HO.out _ h).2; omega⟩))
          obtain ⟨d0, d1, -, -⟩ := hb3.at
          have HK3 := Lib.hid hK3
          have HO3 := Lib.hid hO'
          have hs3 := hK3.size
          have HJ3 := Lib.hid hJ3
          clear hk3 hg3 hK3 hO' hJ3 hb3 hy HR HBx HK1 HW1
          gi_wp2
          go_roundw
          case rel => exact ⟨i + 1, j, O', pre ++ [(x, true, false)], cutV_next (by omega) hn1 HEa.out HOa.out hx1 hx2, cutV_same (by omega) hm1 HEb.out HOb.out hy1 hy2, HO3.out, HJ3.out, HK3, hs3, HST, by rw [List.length_append, List.length_singleton]; omega⟩
          case measure => simp [lenOf]; omega
        · by_cases hgt : y < x
          · have stg : (pre ++ [(y, false, true)]) ++ St.mrg (xs.drop i) (ys.drop (j + 1)) = St.mrg xs ys := by
              rw [← HM.out, HDx.out, HDy.out, St.mrg_gt hgt, List.append_assoc]
              rfl
            have HL := Lib.hid (callsIn_wide (n := 0) |>.2 (least_gt ba oa n c1 bb ob m c2 x y wr hn0 (by omega) hm0 (by omega) cx cy hgt))
            have HOK : Hid (OkW y) := Lib.hid (hoky)
            have HST := Lib.hid (stg)
            have hmmI : (m : Int) ≤ 500000 := by omega
            have hB1 : (1 : Int) ≤ (m : Int) := by omega
            have hB0 : (0 : Int) < (m : Int) := by omega
            gi_wp2_with fail
            refine ⟨trivial, rfl, ?_⟩
            refine HL.out.mono ?_
            rintro e w2 ⟨rfl, hb2⟩
            have HB2 := Lib.hid hb2
            have hz2 := hb2.size
            clear hb2 HL
            obtain ⟨W1, hW1⟩ : ∃ W1, w2.alloc (.cells #[.bool false, .bool true] 49) = W1 := ⟨_, rfl⟩
            have hbx : SdBox W1 w2.heap.size false true := by rw [← hW1]; exact SdBox.new w2 false true
            have hk1 : ∀ S, Keeps S wr W1 := fun S => by rw [← hW1]; exact (Keeps.of_below HB2.out fun _ h _ => h).alloc _
            have hz1 := (hk1 fun _ => True).size
            have hzb := hbx.lt
            obtain ⟨fn, tmps, assign, body, hy, hR⟩ := HY.out O pre (y, false, true) W1 (fun k hk => ⟨(HO.out k hk).1, Nat.lt_of_lt_of_le (HO.out k hk).2 hz1⟩) (Nat.le_trans hsz hz1) (HA.out _ _ _ _ HJs.out (hk1 _)) (by omega) HOK.out
            have HR := Lib.hid hR
            have HBx := Lib.hid hbx
            have HK1 := Lib.hid hk1
            unfold encM at hy
            simp only at hy
            rw [← hW1] at hy
            have HW1 := Lib.hid hW1
            clear hR hbx hk1 hW1
            gi_wp2
            refine ⟨rfl, ?_⟩
            rw [HW1.out]
            refine HR.out.mono ?_
            rintro e W3 ⟨hk3, O', hg3, hout⟩
            rcases hout with ⟨rfl, hJ3⟩ | ⟨rfl, hJx3⟩
            rotate_left
            · exact (HX.out _ _ _ hJx3).elim
            obtain ⟨hO', hK3⟩ := round_next (W := W) HO.out hz1 hsz rfl (HK.out.trans (HK1.out _)) hk3 hg3
            have hb3 : SdBox W3 w2.heap.size false true := HBx.out.keep hk3 (.inr (.inr ⟨by omega, fun h => by have := (HO.out _ h).2; omega⟩))
            obtain ⟨d0, d1, -, -⟩ := hb3.at
            have HK3 := Lib.hid hK3
            have HO3 := Lib.hid hO'
            have hs3 := hK3.size
            have HJ3 := Lib.hid hJ3
            clear hk3 hg3 hK3 hO' hJ3 hb3 hy HR HBx HK1 HW1
            gi_wp2
            go_roundw
            case rel => exact ⟨i, j + 1, O', pre ++ [(y, false, true)], cutV_same (by omega) hn1 HEa.out HOa.out hx1 hx2, cutV_next (by omega) hm1 HEb.out HOb.out hy1 hy2, HO3.out, HJ3.out, HK3, hs3, HST, by rw [List.length_append, List.length_singleton]; omega⟩
            case measure => simp [lenOf]; omega
          · obtain rfl : x = y := Classical.byContradiction fun e => hgt (Mk.lt_of_not hlt e)
            have ste : (pre ++ [(x, true, true)]) ++ St.mrg (xs.drop (i + 1)) (ys.drop (j + 1)) = St.mrg xs ys := by
              rw [← HM.out, HDx.out, HDy.out, St.mrg_eq, List.append_assoc]
              rfl
            have HL := Lib.hid (callsIn_wide (n := 0) |>.2 (least_eq ba oa n c1 bb ob m c2 x wr hn0 (by omega) hm0 (by omega) cx cy))
            have HOK : Hid (OkW x) := Lib.hid (hokx)
            have HST := Lib.hid (ste)
            have hnmI : (n : Int) ≤ 500000 := by omega
            have hmmI : (m : Int) ≤ 500000 := by omega
            have hA1 : (1 : Int) ≤ (n : Int) := by omega
            have hA0 : (0 : Int) < (n : Int) := by omega
            have hB1 : (1 : Int) ≤ (m : Int) := by omega
            have hB0 : (0 : Int) < (m : Int) := by omega
            gi_wp2_with fail
            refine ⟨trivial, rfl, ?_⟩
            refine HL.out.mono ?_
            rintro e w2 ⟨rfl, hb2⟩
            have HB2 := Lib.hid hb2
            have hz2 := hb2.size
            clear hb2 HL
            obtain ⟨W1, hW1⟩ : ∃ W1, w2.alloc (.cells #[.bool true, .bool true] 49) = W1 := ⟨_, rfl⟩
            have hbx : SdBox W1 w2.heap.size true true := by rw [← hW1]; exact SdBox.new w2 true true
            have hk1 : ∀ S, Keeps S wr W1 := fun S => by rw [← hW1]; exact (Keeps.of_below HB2.out fun _ h _ => h).alloc _
            have hz1 := (hk1 fun _ => True).size
            have hzb := hbx.lt
            obtain ⟨fn, tmps, assign, body, hy, hR⟩ := HY.out O pre (x, true, true) W1 (fun k hk => ⟨(HO.out k hk).1, Nat.lt_of_lt_of_le (HO.out k hk).2 hz1⟩) (Nat.le_trans hsz hz1) (HA.out _ _ _ _ HJs.out (hk1 _)) (by omega) HOK.out
            have HR := Lib.hid hR
            have HBx := Lib.hid hbx
            have HK1 := Lib.hid hk1
            unfold encM at hy
            simp only at hy
            rw [← hW1] at hy
            have HW1 := Lib.hid hW1
            clear hR hbx hk1 hW1
            gi_wp2
            refine ⟨rfl, ?_⟩
            rw [HW1.out]
            refine HR.out.mono ?_
            rintro e W3 ⟨hk3, O', hg3, hout⟩
            rcases hout with ⟨rfl, hJ3⟩ | ⟨rfl, hJx3⟩
            rotate_left
            · exact (HX.out _ _ _ hJx3).elim
            obtain ⟨hO', hK3⟩ := round_next (W := W) HO.out hz1 hsz rfl (HK.out.trans (HK1.out _)) hk3 hg3
            have hb3 : SdBox W3 w2.heap.size true true := HBx.out.keep hk3 (.inr (.inr ⟨by omega, fun h => by have := (HO.out _ h).2; omega⟩))
            obtain ⟨d0, d1, -, -⟩ := hb3.at
            have HK3 := Lib.hid hK3
            have HO3 := Lib.hid hO'
            have hs3 := hK3.size
            have HJ3 := Lib.hid hJ3
            clear hk3 hg3 hK3 hO' hJ3 hb3 hy HR HBx HK1 HW1
            gi_wp2
            go_roundw
            case rel => exact ⟨i + 1, j + 1, O', pre ++ [(x, true, true)], cutV_next (by omega) hn1 HEa.out HOa.out hx1 hx2, cutV_next (by omega) hm1 HEb.out HOb.out hy1 hy2, HO3.out, HJ3.out, HK3, hs3, HST, by rw [List.length_append, List.length_singleton]; omega⟩
            case measure => simp [lenOf]; omega
end Go.Proofs.Ytekdmnecjgpokaa
