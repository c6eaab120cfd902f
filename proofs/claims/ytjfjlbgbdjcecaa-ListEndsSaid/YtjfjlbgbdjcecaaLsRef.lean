/- Rows of words appended to rows of words; the contracts of the reference's Cut, place, At, LSub, LSet and Push. -/
import Derived.Test.YtjfjlbgbdjcecaaLsSub
import Derived.Laws.AppendOwnNone
import Derived.Maps.AppendAt
import Derived.Maps.OwnIn
namespace Go.Proofs.Ytjfjlbgbdjcecaa
open Go.RowKit Go.Shelf
set_option linter.unusedVariables false
set_option linter.unusedSimpArgs false

theorem RowW.empty {w W : World} (hb : Below w.heap.size w W) : RowW w (.slice (some ⟨W.heap.size, 0, Option.none⟩) 0 0) [] (W.alloc (.cells #[] 9)) :=
  ⟨⟨by simp [wcells], .inr ⟨W.heap.size, 0, _, rfl, hb.size, World.alloc_heap_new W _, Nat.le_refl _, by decide, rfl, by simp [wcells]⟩⟩, hb.alloc hb.size _⟩
theorem news_of {w : World} {b off cap : Nat} {ws : List (List UInt8)} (h : Wds w (some ⟨b, off, Option.none⟩) cap ws) : ∀ j u, (wcells ws)[j]? = some u → w.cell? ((⟨b, off, Option.none⟩ : Addr).add j) = some u := by
  intro j u hu
  have hj : j < ws.length := by
    have := (List.getElem?_eq_some_iff.1 hu).1
    simpa [wcells] using this
  obtain ⟨b', off', he, _, hc⟩ := h.get (by omega)
  cases he
  have e : (⟨b, off, Option.none⟩ : Addr).add j = ⟨b, off + j, Option.none⟩ := by unfold Addr.add; split <;> simp_all
  rw [e, hc j hj, getD_eq hj]
  simpa [wcells, hj] using hu
theorem news_one {ws : List (List UInt8)} : ∀ u ∈ wcells ws, u.oneCell' = true := by
  intro u hu
  obtain ⟨s, _, rfl⟩ := List.mem_map.1 hu
  rfl
theorem wcells_len (ws : List (List UInt8)) : (wcells ws).length = ws.length := by simp [wcells]


/-- append(l, x...) of words, whatever they are. -/
theorem run_append_w {w W : World} {fs xs : List Ls.Bs} {v : Value} {a : Option Addr} {c : Nat} (h : RowW w v fs W) (hb : Wds W a c xs) (hn : a = Option.none → c = 0) (hl : fs.length ≤ 2000000) (hx : xs.length ≤ 2000000) (ty : TypeId) :
    ∃ v' W', (Builtin.append_ #[22, 22] ty #[v, .slice a xs.length c]).run Try.prog W = .ok v' W' ∧ RowW w v' (fs ++ xs) W' := by
  obtain ⟨iF, hiF, hiF0, hiF1, hiF2⟩ := info_parts info9
  cases a with
  | none =>
    obtain rfl := hn rfl
    have hx0 : xs = [] := List.eq_nil_of_length_eq_zero (by have := hb.1; omega)
    subst hx0
    rw [List.append_nil]
    exact ⟨v, W, run_append_owned_none W w.heap.size _ ty _ iF 1 Try.underlying22 hiF v _ _ h.1, h⟩
  | some ad =>
    have hnews : ∀ (j : Nat) (u : Value), (wcells xs)[j]? = some u → W.cell? (ad.add j) = some u := by
      intro j u hj
      have hjl : j < xs.length := by
        have := (List.getElem?_eq_some_iff.1 hj).1
        rwa [wcells_len] at this
      obtain ⟨b, off, ha, -, -⟩ := hb.get (by omega)
      obtain rfl := Option.some.inj ha
      exact news_of hb j u hj
    obtain ⟨v', W', hr, ho, hg, -, -⟩ := run_append_own_at (P := Try.prog) W w.heap.size 22 ty 9 iF _ 1 16 Try.underlying22 hiF hiF0 hiF1 hiF2 rfl (by decide) v fs.length (wcells fs) h.1 ad xs.length c (wcells xs) (by rw [wcells_len, Nat.mul_one]) hnews news_one (by unfold maxLen; omega) (by omega) h.2.size
    refine ⟨v', W', hr, ?_, h.2.trans ((Keeps.of_grown (S := fun k => k < w.heap.size) hg fun r e hlt => by have := (h.1.lt r e).1; omega).below h.2.size fun k hk => hk)⟩
    rw [List.length_append, show wcells (fs ++ xs) = wcells fs ++ wcells xs by simp [wcells]]
    exact ho

theorem wpList_append_w {ops : Array Oper} {rest : List Oper} {o : Oper} {a : Act} {Q : Exit → Act → World → Prop} (hgd : o.guard = Option.none) (s x : Operand)
    (ho : o.op = .call { callee := .builtin .append, args := #[s, x], argTypes := #[22, 22] })
    {w W : World} {v : Value} {fs xs : List Ls.Bs} {ax : Option Addr} {c : Nat} (hs : a.eval s = v) (h : RowW w v fs W) (hx : a.eval x = .slice ax xs.length c) (hb : Wds W ax c xs) (hn : ax = Option.none → c = 0) (hl : fs.length ≤ 2000000) (hxl : xs.length ≤ 2000000)
    (hK : ∀ v' W', RowW w v' (fs ++ xs) W' → wpList Try.prog ops Q rest (a.put o.dst v') W') : wpList Try.prog ops Q (o :: rest) a W :=
  wpList_plain hgd fun K hk => by
    obtain ⟨v', W', hr, h2⟩ := run_append_w h hb hn hl hxl o.type
    unfold Oper.wp execOp
    simp only [ho, resolve, invoke, builtin, Sem.run_bind, Sem.run_pure, Result.andThen_ok, List.map_toArray, List.map_cons, List.map_nil, hs, hx, hr]
    exact hk _ _ (hK v' W' h2)

/-- words in a row, as a slice; nil has no room. -/
theorem RowW.open_ {w W : World} {v : Value} {ws : List Ls.Bs} (h : RowW w v ws W) (hs : ∀ s ∈ ws, s.length ≤ 9223372036854775807) : ∃ a cap, v = .slice a ws.length cap ∧ Wds W a cap ws ∧ (a = Option.none → cap = 0) := by
  obtain ⟨a, cap, hv, hw⟩ := h.words hs
  refine ⟨a, cap, hv, hw, ?_⟩
  rintro rfl
  rcases h.1.2 with ⟨e, -⟩ | ⟨g, c, cur, e, -⟩
  · rw [hv] at e; injection e
  · rw [hv] at e; injection e with e; cases e
theorem rowW_one {w W : World} (hb : Below w.heap.size w W) (x : Ls.Bs) : RowW w (.slice (some ⟨W.heap.size, 0, Option.none⟩) 1 1) [x] (W.alloc (.cells #[.string ⟨x.toArray⟩] 9)) :=
  ⟨⟨by simp [wcells], .inr ⟨W.heap.size, 1, _, rfl, hb.size, World.alloc_heap_new W _, Nat.le_refl _, by decide, rfl, by simp [wcells]⟩⟩, hb.alloc hb.size _⟩

set_option maxRecDepth 100000 in
set_option maxHeartbeats 4000000 in
theorem push_ref (a : Option Addr) (c : Nat) (ws : List Ls.Bs) (front : Bool) (b : Option Addr) (d : Nat) (vs : List Ls.Bs) (w : World) (h1 : Wds w a c ws) (h2 : Wds w b d vs) (hna : a = Option.none → c = 0) (hn : ws.length ≤ 1000000) (hm : vs.length ≤ 1000000) :
    Calls Try.prog 18 #[.slice a ws.length c, .bool front, .slice b vs.length d] w fun e W => ∃ u, e = .returned u ∧ RowW w u (Ls.pushS ws vs front) W := by
  obtain ⟨iF, hiF, hiF0, hiF1, hiF2⟩ := info_parts info9
  have H1 := Lib.hid h1
  have H2 := Lib.hid h2
  have HNA := Lib.hid hna
  have HLW := Lib.hid h1.2.2.1
  have HLV := Lib.hid h2.2.2.1
  have hmI : (vs.length : Int) ≤ 1000000 := by omega
  clear h1 h2 hna
  go_enter Try.func18, Try.ntmps18
  go_wp2_with (at_builtin; refine wpList_append_w rfl (.tmp 9) (.tmp 10) rfl rfl (RowW.empty (Below.refl w.heap.size w)) rfl (H1.out.later ((Below.refl _ _).alloc (Nat.le_refl _) _)) HNA.out (by simp) (by omega) ?_; intro v1 w1 hr1; rw [List.nil_append] at hr1; have HR1 := Lib.hid hr1; clear hr1)
  cases front
  · go_loopw [7, 8] (fun u i wr => ∃ q : Nat, q ≤ vs.length ∧ i = .int .i64 q ∧ Hid (RowW w u (ws ++ vs.take q) wr)) (fun _ i _ => vs.length - (intOf i).toNat)
    case atStart => exact ⟨0, Nat.zero_le _, rfl, by simpa using HR1⟩
    case round =>
      obtain ⟨q, hq, rfl, HQ⟩ := hrel
      have hzr := HQ.out.2.size
      by_cases hlt : q < vs.length
      · obtain ⟨bF, oF, rfl, hbF, hcF⟩ := H2.out.get (by omega)
        have y0 := (HQ.out.2.cell (p := ⟨bF, oF + q, Option.none⟩) hbF).trans (hcF q hlt)
        have HNX : Hid (ws ++ vs.take (q + 1) = (ws ++ vs.take q) ++ [vs.getD q []]) := Lib.hid (by rw [take_succ_getD (d := []) hlt, List.append_assoc])
        have hlo : (ws ++ vs.take q).length ≤ 2000000 := by rw [List.length_append, List.length_take]; omega
        generalize vs.getD q [] = s1 at y0 HNX
        have k0 : (0 : Int) ≤ (q : Int) := by omega
        have k1 : (q : Int) < (vs.length : Int) := by omega
        clear hcF
        generalize ws ++ vs.take q = out at HQ hlo HNX
        go_wp2_with (at_builtin; refine wpList_append_own _ rfl (.tmp 26) (.tmp 31) 22 rfl w.heap.size 9 iF _ 1 16 Try.underlying22 hiF hiF0 hiF1 hiF2 rfl (by decide) _ _ _ rfl (HQ.out.1.alloc _) ⟨wr.heap.size, 0, Option.none⟩ 1 1 [.string ⟨s1.toArray⟩] rfl rfl (one_news _ _ rfl _ _) (by simp [Value.oneCell']) (by unfold maxLen; omega) (by omega) (by simp; omega) ?_; intro v1 w1 hown hgrow _; have HR2 := Lib.hid (HQ.out.append hown hgrow); have hzw1 := HR2.out.2.size; clear hown hgrow)
        go_roundw
        case rel => exact ⟨q + 1, by omega, by go_num, by rw [HNX.out]; exact HR2⟩
        case measure => simp [intOf]; omega
      · obtain rfl : q = vs.length := by omega
        rw [List.take_length] at HQ
        go_wp2_with fail
        go_ret
        exact ⟨_, rfl, HQ.out⟩
  · go_loopw [7, 8] (fun u i wr => ∃ q : Nat, q ≤ vs.length ∧ i = .int .i64 q ∧ Hid (RowW w u ((vs.take q).reverse ++ ws) wr)) (fun _ i _ => vs.length - (intOf i).toNat)
    case atStart => exact ⟨0, Nat.zero_le _, rfl, by simpa using HR1⟩
    case round =>
      obtain ⟨q, hq, rfl, HQ⟩ := hrel
      have hzr := HQ.out.2.size
      by_cases hlt : q < vs.length
      · obtain ⟨bF, oF, rfl, hbF, hcF⟩ := H2.out.get (by omega)
        have y0 := (HQ.out.2.cell (p := ⟨bF, oF + q, Option.none⟩) hbF).trans (hcF q hlt)
        have HNX : Hid ((vs.take (q + 1)).reverse ++ ws = [vs.getD q []] ++ ((vs.take q).reverse ++ ws)) := Lib.hid (by rw [take_succ_getD (d := []) hlt]; simp)
        have hlo : ((vs.take q).reverse ++ ws).length ≤ 2000000 := by rw [List.length_append, List.length_reverse, List.length_take]; omega
        have hls : ∀ s ∈ (vs.take q).reverse ++ ws, s.length ≤ 9223372036854775807 := by
          intro s hs
          rcases List.mem_append.1 hs with h | h
          · exact HLV.out s (List.mem_of_mem_take (List.mem_reverse.1 h))
          · exact HLW.out s h
        generalize vs.getD q [] = s1 at y0 HNX
        have k0 : (0 : Int) ≤ (q : Int) := by omega
        have k1 : (q : Int) < (vs.length : Int) := by omega
        obtain ⟨aq, cq, hv, hwq, hnq⟩ := HQ.out.open_ hls
        subst hv
        have HWQ := Lib.hid hwq
        have HNQ := Lib.hid hnq
        clear hcF hls hwq hnq
        generalize (vs.take q).reverse ++ ws = out at HQ hlo HNX HWQ
        go_wp2_with (at_builtin; refine wpList_append_w rfl (.tmp 23) (.tmp 24) rfl rfl (rowW_one HQ.out.2 s1) rfl (HWQ.out.later ((Below.refl _ _).alloc (Nat.le_refl _) _)) HNQ.out (by simp) hlo ?_; intro v2 w2 hr2; have HR2 := Lib.hid hr2; clear hr2)
        go_roundw
        case rel => exact ⟨q + 1, by omega, by go_num, by rw [HNX.out]; exact HR2⟩
        case measure => simp [intOf]; omega
      · obtain rfl : q = vs.length := by omega
        rw [List.take_length] at HQ
        go_wp2_with fail
        go_ret
        exact ⟨_, rfl, HQ.out⟩
end Go.Proofs.Ytjfjlbgbdjcecaa
