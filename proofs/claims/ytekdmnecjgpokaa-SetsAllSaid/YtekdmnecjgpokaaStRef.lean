/- The contracts of the reference's SOf and SUnion. -/
import Derived.Test.YtekdmnecjgpokaaStSAdd
import Derived.Test.YtekdmnecjgpokaaStUnion
import Derived.Maps.AppendAt
namespace Go.Proofs.Ytekdmnecjgpokaa
open Go.RowKit Go.Shelf
set_option linter.unusedVariables false
set_option linter.unusedSimpArgs false

/-- append(l, x...) of words, whatever they are. -/
theorem run_append_w {w W : World} {fs xs : List St.Bs} {v : Value} {a : Option Addr} {c : Nat} (h : RowW w v fs W) (hb : Wds W a c xs) (hn : a = Option.none → c = 0) (hl : fs.length ≤ 2000000) (hx : xs.length ≤ 2000000) (ty : TypeId) :
    ∃ v' W', (Builtin.append_ #[25, 25] ty #[v, .slice a xs.length c]).run Try.prog W = .ok v' W' ∧ RowW w v' (fs ++ xs) W' := by
  obtain ⟨iF, hiF, hiF0, hiF1, hiF2⟩ := info_parts info9
  cases a with
  | none =>
    obtain rfl := hn rfl
    have hx0 : xs = [] := List.eq_nil_of_length_eq_zero (by have := hb.1; omega)
    subst hx0
    rw [List.append_nil]
    exact ⟨v, W, run_append_owned_none W w.heap.size _ ty _ iF 1 Try.underlying25 hiF v _ _ h.1, h⟩
  | some ad =>
    have hnews : ∀ (j : Nat) (u : Value), (wcells xs)[j]? = some u → W.cell? (ad.add j) = some u := by
      intro j u hj
      have hjl : j < xs.length := by
        have := (List.getElem?_eq_some_iff.1 hj).1
        rwa [wcells_len] at this
      obtain ⟨b, off, ha, -, -⟩ := hb.get (by omega)
      obtain rfl := Option.some.inj ha
      exact news_of hb j u hj
    obtain ⟨v', W', hr, ho, hg, -, -⟩ := run_append_own_at (P := Try.prog) W w.heap.size 25 ty 9 iF _ 1 16 Try.underlying25 hiF hiF0 hiF1 hiF2 rfl (by decide) v fs.length (wcells fs) h.1 ad xs.length c (wcells xs) (by rw [wcells_len, Nat.mul_one]) hnews news_one (by unfold maxLen; omega) (by omega) h.2.size
    refine ⟨v', W', hr, ?_, h.2.trans ((Keeps.of_grown (S := fun k => k < w.heap.size) hg fun r e hlt => by have := (h.1.lt r e).1; omega).below h.2.size fun k hk => hk)⟩
    rw [List.length_append, show wcells (fs ++ xs) = wcells fs ++ wcells xs by simp [wcells]]
    exact ho

theorem wpList_append_w {ops : Array Oper} {rest : List Oper} {o : Oper} {a : Act} {Q : Exit → Act → World → Prop} (hgd : o.guard = Option.none) (s x : Operand)
    (ho : o.op = .call { callee := .builtin .append, args := #[s, x], argTypes := #[25, 25] })
    {w W : World} {v : Value} {fs xs : List St.Bs} {ax : Option Addr} {c : Nat} (hs : a.eval s = v) (h : RowW w v fs W) (hx : a.eval x = .slice ax xs.length c) (hb : Wds W ax c xs) (hn : ax = Option.none → c = 0) (hl : fs.length ≤ 2000000) (hxl : xs.length ≤ 2000000)
    (hK : ∀ v' W', RowW w v' (fs ++ xs) W' → wpList Try.prog ops Q rest (a.put o.dst v') W') : wpList Try.prog ops Q (o :: rest) a W :=
  wpList_plain hgd fun K hk => by
    obtain ⟨v', W', hr, h2⟩ := run_append_w h hb hn hl hxl o.type
    unfold Oper.wp execOp
    simp only [ho, resolve, invoke, builtin, Sem.run_bind, Sem.run_pure, Result.andThen_ok, List.map_toArray, List.map_cons, List.map_nil, hs, hx, hr]
    exact hk _ _ (hK v' W' h2)

/-- words in a row, as a slice; nil has no room. -/
theorem RowW.open_ {w W : World} {v : Value} {ws : List St.Bs} (h : RowW w v ws W) (hs : ∀ s ∈ ws, s.length ≤ 9223372036854775807) : ∃ a cap, v = .slice a ws.length cap ∧ Wds W a cap ws ∧ (a = Option.none → cap = 0) := by
  obtain ⟨a, cap, hv, hw⟩ := h.words hs
  refine ⟨a, cap, hv, hw, ?_⟩
  rintro rfl
  rcases h.1.2 with ⟨e, -⟩ | ⟨g, c, cur, e, -⟩
  · rw [hv] at e; injection e
  · rw [hv] at e; injection e with e; cases e
theorem rowW_one {w W : World} (hb : Below w.heap.size w W) (x : St.Bs) : RowW w (.slice (some ⟨W.heap.size, 0, Option.none⟩) 1 1) [x] (W.alloc (.cells #[.string ⟨x.toArray⟩] 9)) :=
  ⟨⟨by simp [wcells], .inr ⟨W.heap.size, 1, _, rfl, hb.size, World.alloc_heap_new W _, Nat.le_refl _, by decide, rfl, by simp [wcells]⟩⟩, hb.alloc hb.size _⟩


/-- SAdd to a row of the call's own. -/
theorem sadd_row {w wr : World} {v : Value} {zs : List St.Bs} {x : St.Bs} (h : RowW w v zs wr) (h0 : zs = [] → v = .slice none 0 0) (hl : zs.length ≤ 1000) (hs : ∀ s ∈ zs, s.length ≤ 9223372036854775807) (hx : x.length ≤ 1000000) :
    Calls Try.prog 21 #[v, .string ⟨x.toArray⟩] wr fun e W' => ∃ u, e = .returned u ∧ RowW w u (Mk.sadd zs x) W' := by
  by_cases hz : zs = []
  · obtain rfl := h0 hz
    subst hz
    refine (sadd_nil x wr hx).mono ?_
    rintro e W' ⟨u, rfl, hr⟩
    exact ⟨u, rfl, owns_base hr.1 h.2.size, h.2.trans (hr.2.mono h.2.size)⟩
  · obtain ⟨a, cap, rfl, hwd, hown⟩ := wds_of_row h.1 hs
    obtain ⟨g, rfl, -, -, -⟩ := hown hz
    refine (sadd_any g cap zs x wr hwd (List.length_pos_iff.2 hz) hl hx).mono ?_
    rintro e W' ⟨u, rfl, hr⟩
    exact ⟨u, rfl, owns_base hr.1 h.2.size, h.2.trans (hr.2.mono h.2.size)⟩

set_option maxRecDepth 100000 in
set_option maxHeartbeats 4000000 in
theorem sof_any (a : Option Addr) (cap : Nat) (ws : List St.Bs) (w : World) (hW : Wds w a cap ws) (hn : ws.length ≤ 1000) (hok : ∀ s ∈ ws, OkW s) :
    Calls Try.prog 9 #[.slice a ws.length cap] w fun e W' => ∃ u, e = .returned u ∧ RowW w u (St.ofS ws) W' := by
  have HW := Lib.hid hW
  have HOK := Lib.hid hok
  have hnI : (ws.length : Int) ≤ 1000 := by omega
  clear hW hok
  go_enter Try.func9, Try.ntmps9
  go_wp2
  go_loopw [3, 4] (fun u i wr => ∃ k : Nat, k ≤ ws.length ∧ i = .int .i64 k ∧ Hid (RowW w u (St.ofS (ws.take k)) wr) ∧ Hid (k = 0 → u = .slice none 0 0)) (fun _ i _ => ws.length - (intOf i).toNat)
  case atStart => exact ⟨0, Nat.zero_le _, rfl, Lib.hid (RowW.none (Below.refl _ _)), Lib.hid fun _ => rfl⟩
  case round =>
    obtain ⟨k, hk, rfl, HR, HZ⟩ := hrel
    have k0 : (0 : Int) ≤ (k : Int) := by omega
    by_cases hlt : k < ws.length
    · obtain ⟨b, off, rfl, hb, hc⟩ := HW.out.get (by omega)
      have y0 := (HR.out.2.cell (p := ⟨b, off + k, none⟩) hb).trans (hc k hlt)
      have k1 : (k : Int) < (ws.length : Int) := by omega
      have HE : Hid (St.ofS (ws.take (k + 1)) = Mk.sadd (St.ofS (ws.take k)) (ws.getD k [])) := Lib.hid (St.of_take hlt)
      have hs : (ws.getD k []).length ≤ 1000000 := HOK.out _ (by rw [getD_eq hlt]; exact List.getElem_mem hlt)
      have hol : (St.ofS (ws.take k)).length ≤ 1000 := by
        have := St.of_len (ws.take k)
        rw [List.length_take] at this
        omega
      have hso : ∀ s ∈ St.ofS (ws.take k), s.length ≤ 9223372036854775807 := fun s hs => by
        have : s.length ≤ 1000000 := HOK.out s (List.mem_of_mem_take (St.mem_of.1 hs))
        omega
      have hz : St.ofS (ws.take k) = [] → k = 0 := fun h => by
        rcases Nat.eq_zero_or_pos k with h' | h'
        · exact h'
        · have hm : ws[0] ∈ St.ofS (ws.take k) := St.mem_of.2 (List.mem_take_iff_getElem.2 ⟨0, by omega, rfl⟩)
          rw [h] at hm
          simp at hm
      have HC := Lib.hid (sadd_row (x := ws.getD k []) HR.out (fun h => HZ.out (hz h)) hol hso hs)
      obtain ⟨x, hx⟩ : ∃ x, ws.getD k [] = x := ⟨_, rfl⟩
      rw [hx] at y0 HE HC
      clear hc hso hz hol hs hx HZ HR
      go_wp2_with fail
      refine HC.out.mono ?_
      rintro e w2 ⟨u, rfl, hr⟩
      have HR := Lib.hid hr
      clear hr y0 HC
      go_wp2
      go_roundw
      case rel => exact ⟨k + 1, by omega, by go_num, by rw [HE.out]; exact HR, Lib.hid fun h => by omega⟩
      case measure => simp [intOf]; omega
    · obtain rfl : k = ws.length := by omega
      rw [List.take_length] at HR
      go_wp2
      go_ret
      exact ⟨_, rfl, HR.out⟩

theorem flat_take {L : List (List St.Bs)} {k : Nat} (h : k < L.length) : (L.take (k + 1)).flatten = (L.take k).flatten ++ L.getD k [] := by
  rw [take_succ_getD (d := []) h]
  simp
theorem flat_le (L : List (List St.Bs)) (k : Nat) : (L.take k).flatten.length ≤ L.flatten.length := by
  have e : (L.take k).flatten.length + (L.drop k).flatten.length = L.flatten.length := by rw [← List.length_append, ← List.flatten_append, List.take_append_drop]
  omega
theorem getD_le {L : List (List St.Bs)} {k : Nat} (h : k < L.length) : (L.getD k []).length ≤ L.flatten.length := by
  have h1 := flat_le L (k + 1)
  rw [flat_take h, List.length_append] at h1
  omega

set_option maxRecDepth 100000 in
set_option maxHeartbeats 4000000 in
theorem sunion_any (a : Option Addr) (cap : Nat) (L : List (List St.Bs)) (w : World) (hW : Wss w a cap L) (hL : L.length ≤ 1000) (hn : L.flatten.length ≤ 1000) (hok : ∀ l ∈ L, ∀ s ∈ l, OkW s) :
    Calls Try.prog 17 #[.slice a L.length cap] w fun e W' => ∃ u, e = .returned u ∧ RowW w u (St.uniS L) W' := by
  have HW := Lib.hid hW
  have HOK : Hid (∀ s ∈ L.flatten, OkW s) := Lib.hid fun s hs => by
    obtain ⟨l, hl, h⟩ := List.mem_flatten.1 hs
    exact hok l hl s h
  have hnI : (L.length : Int) ≤ 1000 := by omega
  have HN := Lib.hid hn
  clear hW hok hn
  go_enter Try.func17, Try.ntmps17
  go_wp2
  go_loopw [3, 4] (fun u i wr => ∃ k : Nat, k ≤ L.length ∧ i = .int .i64 k ∧ Hid (RowW w u (L.take k).flatten wr)) (fun _ i _ => L.length - (intOf i).toNat)
  case atStart => exact ⟨0, Nat.zero_le _, rfl, Lib.hid (RowW.none (Below.refl _ _))⟩
  case round =>
    obtain ⟨k, hk, rfl, HR⟩ := hrel
    have k0 : (0 : Int) ≤ (k : Int) := by omega
    by_cases hlt : k < L.length
    · obtain ⟨b, off, rfl, hb, hc⟩ := HW.out.get (by omega)
      obtain ⟨a1, c1, z1, z2, z3⟩ := hc k hlt
      have y0 := (HR.out.2.cell (p := ⟨b, off + k, none⟩) hb).trans z1
      have k1 : (k : Int) < (L.length : Int) := by omega
      have HE : Hid ((L.take (k + 1)).flatten = (L.take k).flatten ++ L.getD k []) := Lib.hid (flat_take hlt)
      have HL1 : Hid ((L.take k).flatten.length ≤ 2000000) := Lib.hid (by have := flat_le L k; have := HN.out; omega)
      have HL2 : Hid ((L.getD k []).length ≤ 2000000) := Lib.hid (by have := getD_le hlt; have := HN.out; omega)
      have HZ2 := Lib.hid (z2.later HR.out.2)
      have HZ3 := Lib.hid z3
      obtain ⟨x, hx⟩ : ∃ x, L.getD k [] = x := ⟨_, rfl⟩
      rw [hx] at y0 HE HL2 HZ2
      clear hc z1 z2 z3 hx
      go_wp2_with (at_builtin; refine wpList_append_w rfl (.tmp 11) (.tmp 15) rfl rfl HR.out rfl HZ2.out HZ3.out HL1.out HL2.out ?_)
      intro v' w1 hr
      have HR1 := Lib.hid hr
      clear hr y0 HR
      go_wp2
      go_roundw
      case rel => exact ⟨k + 1, by omega, by go_num, by rw [HE.out]; exact HR1⟩
      case measure => simp [intOf]; omega
    · obtain rfl : k = L.length := by omega
      rw [List.take_length] at HR
      have hso : ∀ s ∈ L.flatten, s.length ≤ 9223372036854775807 := fun s hs => by have : s.length ≤ 1000000 := HOK.out s hs; omega
      obtain ⟨a1, c1, rfl, hwd⟩ := HR.out.words hso
      have HC := Lib.hid (sof_any a1 c1 L.flatten wr hwd HN.out HOK.out)
      have HU : Hid (St.ofS L.flatten = St.uniS L) := Lib.hid rfl
      clear hwd hso
      generalize L.flatten = ff at *
      go_wp2_with fail
      refine HC.out.mono ?_
      rintro e w2 ⟨u, rfl, hr⟩
      have HR2 := Lib.hid hr
      clear hr HC
      go_wp2
      go_ret
      exact ⟨_, rfl, by rw [← HU.out]; exact owns_base HR2.out.1 HR.out.2.size, HR.out.2.trans (HR2.out.2.mono HR.out.2.size)⟩
end Go.Proofs.Ytekdmnecjgpokaa
