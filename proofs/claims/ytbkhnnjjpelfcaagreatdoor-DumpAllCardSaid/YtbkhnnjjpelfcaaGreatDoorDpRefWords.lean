/- Rows of words that the call owns, and append to them: run_append_w and its like, for any seat with []string (out of StSAdd, StRef). The reference's PutItem (10.1), by what its callees keep (MayC, DigC, WordsC, CrcC). The reference's Words (3.2), by what PutReply keeps (PutC). -/
import Derived.Test.YtbkhnnjjpelfcaaGreatDoorWds
import Derived.Test.YtbkhnnjjpelfcaaGreatDoorDpPlain
import Derived.Laws.AppendOwnNone
import Derived.Maps.AppendAt
import Derived.Maps.OwnIn
import Derived.Test.YtbkhnnjjpelfcaaGreatDoorItMay
import Derived.Test.YtbkhnnjjpelfcaaGreatDoorHeldL
import Derived.LoopTactic
import Derived.Deep.RegionHeld3
import Derived.Lib.ConvBytes
import Derived.Test.YtbkhnnjjpelfcaaGreatDoorRpRefReply
import Derived.Test.YtbkhnnjjpelfcaaGreatDoorDpEnc
namespace Go.Proofs.YtbkhnnjjpelfcaaGreatDoor
namespace Dp
open Go.RowKit Go.Shelf
set_option linter.unusedVariables false
set_option linter.unusedSimpArgs false

theorem info9 : (Tryz.prog.info? 9).map (fun i => (i.zero, i.size, i.bytes)) = some (some (.string ⟨#[]⟩), 1, 16) := by kernel_rfl
theorem news_of {w : World} {b off cap : Nat} {ws : List (List UInt8)} (h : Wds w (some ⟨b, off, Option.none⟩) cap ws) : ∀ j u, (wcells ws)[j]? = some u → w.cell? ((⟨b, off, Option.none⟩ : Addr).add j) = some u := by
  intro j u hu
  have hj : j < ws.length := by
    have := (List.getElem?_eq_some_iff.1 hu).1
    simpa [wcells] using this
  obtain ⟨b', off', he, _, hc⟩ := h.get (by omega)
  cases he
  have e : (⟨b, off, Option.none⟩ : Addr).add j = ⟨b, off + j, Option.none⟩ := by unfold Addr.add; split <;> simp_all
  rw [e, hc j hj, getD_eq hj]
  simpa [wcells, hj] using hu
theorem news_one {ws : List (List UInt8)} : ∀ u ∈ wcells ws, u.oneCell' = true := by
  intro u hu
  obtain ⟨s, _, rfl⟩ := List.mem_map.1 hu
  rfl
theorem wcells_len (ws : List (List UInt8)) : (wcells ws).length = ws.length := by simp [wcells]

/-- append(l, x...) of words, whatever they are. -/
theorem run_append_w {w W : World} {fs xs : List Dp.Bs} {v : Value} {a : Option Addr} {c : Nat} (h : RowW w v fs W) (hb : Wds W a c xs) (hn : a = Option.none → c = 0) (hl : fs.length ≤ 2000000) (hx : xs.length ≤ 2000000) (ty : TypeId) :
    ∃ v' W', (Builtin.append_ #[23, 23] ty #[v, .slice a xs.length c]).run Tryz.prog W = .ok v' W' ∧ RowW w v' (fs ++ xs) W' := by
  obtain ⟨iF, hiF, hiF0, hiF1, hiF2⟩ := info_parts info9
  cases a with
  | none =>
    obtain rfl := hn rfl
    have hx0 : xs = [] := List.eq_nil_of_length_eq_zero (by have := hb.1; omega)
    subst hx0
    rw [List.append_nil]
    exact ⟨v, W, run_append_owned_none W w.heap.size _ ty _ iF 1 Tryz.underlying23 hiF v _ _ h.1, h⟩
  | some ad =>
    have hnews : ∀ (j : Nat) (u : Value), (wcells xs)[j]? = some u → W.cell? (ad.add j) = some u := by
      intro j u hj
      have hjl : j < xs.length := by
        have := (List.getElem?_eq_some_iff.1 hj).1
        rwa [wcells_len] at this
      obtain ⟨b, off, ha, -, -⟩ := hb.get (by omega)
      obtain rfl := Option.some.inj ha
      exact news_of hb j u hj
    obtain ⟨v', W', hr, ho, hg, -, -⟩ := run_append_own_at (P := Tryz.prog) W w.heap.size 23 ty 9 iF _ 1 16 Tryz.underlying23 hiF hiF0 hiF1 hiF2 rfl (by decide) v fs.length (wcells fs) h.1 ad xs.length c (wcells xs) (by rw [wcells_len, Nat.mul_one]) hnews news_one (by unfold maxLen; omega) (by omega) h.2.size
    refine ⟨v', W', hr, ?_, h.2.trans ((Keeps.of_grown (S := fun k => k < w.heap.size) hg fun r e hlt => by have := (h.1.lt r e).1; omega).below h.2.size fun k hk => hk)⟩
    rw [List.length_append, show wcells (fs ++ xs) = wcells fs ++ wcells xs by simp [wcells]]
    exact ho

theorem wpList_append_w {ops : Array Oper} {rest : List Oper} {o : Oper} {a : Act} {Q : Exit → Act → World → Prop} (hgd : o.guard = Option.none) (s x : Operand)
    (ho : o.op = .call { callee := .builtin .append, args := #[s, x], argTypes := #[23, 23] })
    {w W : World} {v : Value} {fs xs : List Dp.Bs} {ax : Option Addr} {c : Nat} (hs : a.eval s = v) (h : RowW w v fs W) (hx : a.eval x = .slice ax xs.length c) (hb : Wds W ax c xs) (hn : ax = Option.none → c = 0) (hl : fs.length ≤ 2000000) (hxl : xs.length ≤ 2000000)
    (hK : ∀ v' W', RowW w v' (fs ++ xs) W' → wpList Tryz.prog ops Q rest (a.put o.dst v') W') : wpList Tryz.prog ops Q (o :: rest) a W :=
  wpList_plain hgd fun K hk => by
    obtain ⟨v', W', hr, h2⟩ := run_append_w h hb hn hl hxl o.type
    unfold Oper.wp execOp
    simp only [ho, resolve, invoke, builtin, Sem.run_bind, Sem.run_pure, Result.andThen_ok, List.map_toArray, List.map_cons, List.map_nil, hs, hx, hr]
    exact hk _ _ (hK v' W' h2)

/-- words in a row, as a slice; nil has no room. -/
theorem _root_.Go.Proofs.YtbkhnnjjpelfcaaGreatDoor.Dp.row_open {w W : World} {v : Value} {ws : List Dp.Bs} (h : RowW w v ws W) (hs : ∀ s ∈ ws, s.length ≤ 9223372036854775807) : ∃ a cap, v = .slice a ws.length cap ∧ Wds W a cap ws ∧ (a = Option.none → cap = 0) := by
  obtain ⟨a, cap, hv, hw⟩ := h.words hs
  refine ⟨a, cap, hv, hw, ?_⟩
  rintro rfl
  rcases h.1.2 with ⟨e, -⟩ | ⟨g, c, cur, e, -⟩
  · rw [hv] at e; injection e
  · rw [hv] at e; injection e with e; cases e
theorem rowW_one {w W : World} (hb : Below w.heap.size w W) (x : Dp.Bs) : RowW w (.slice (some ⟨W.heap.size, 0, Option.none⟩) 1 1) [x] (W.alloc (.cells #[.string ⟨x.toArray⟩] 9)) :=
  ⟨⟨by simp [wcells], .inr ⟨W.heap.size, 1, _, rfl, hb.size, World.alloc_heap_new W _, Nat.le_refl _, by decide, rfl, by simp [wcells]⟩⟩, hb.alloc hb.size _⟩



/-- a row of two words. -/
theorem rowW_two {w W : World} (hb : Below w.heap.size w W) (x y : Dp.Bs) : RowW w (.slice (some ⟨W.heap.size, 0, Option.none⟩) 2 2) [x, y] (W.alloc (.cells #[.string ⟨x.toArray⟩, .string ⟨y.toArray⟩] 9)) :=
  ⟨⟨by simp [wcells], .inr ⟨W.heap.size, 2, _, rfl, hb.size, World.alloc_heap_new W _, Nat.le_refl _, by decide, rfl, by simp [wcells]⟩⟩, hb.alloc hb.size _⟩
theorem cell_next {A B : World} {p : Addr} {v : Value} (h : A.cell? p = some v) (hb : Below A.heap.size A B) : B.cell? p = some v := (hb.cell (World.block_lt_of_cell? A p h)).trans h
end Dp
end Go.Proofs.YtbkhnnjjpelfcaaGreatDoor
namespace Go.Proofs.YtbkhnnjjpelfcaaGreatDoor
namespace Dp
open Go.RowKit Go.Shelf
attribute [local go_sem] Oper.semAt_some
set_option linter.unusedVariables false
set_option linter.unusedSimpArgs false

/-- what MayItem keeps. -/
def MayC : Prop := ∀ (k x : Int) (s : Bs) (aF : Option Addr) (cF : Nat) (fs : List (Bs × Bs)) (aL : Option Addr) (cL : Nat) (ws : List Bs) (w : World), Fds w aF cF fs → Wds w aL cL ws →
  Calls Tryz.prog 23 #[itv k s aF fs.length cF aL ws.length cL x] w fun e w' => e = .returned (.bool (It.mayB ⟨k, s, fs, ws, x⟩)) ∧ Below w.heap.size w w'
/-- what Digits keeps. -/
def DigC : Prop := ∀ (n : Int) (w : World), -9223372036854775808 ≤ n → n ≤ 9223372036854775807 →
  Calls Tryz.prog 24 #[.int .i64 n] w fun e w' => e = .returned (.string ⟨(Dig.dec n).toArray⟩) ∧ Below w.heap.size w w'
/-- what Words keeps. -/
def WordsC : Prop := ∀ (a : Option Addr) (c : Nat) (ws : List Bs) (w : World), Wds w a c ws → ws.length ≤ 82 → (∀ s ∈ ws, s.length ≤ 300) →
  Calls Tryz.prog 25 #[.slice a ws.length c] w fun e w' => e = .returned (.string ⟨(encW ws).toArray⟩) ∧ Below w.heap.size w w'
/-- what Crc keeps. -/
def CrcC : Prop := ∀ (l : Bs) (w : World), l.length ≤ 30000 →
  Calls Tryz.prog 26 #[.string ⟨l.toArray⟩] w fun e w' => e = .returned (.int .i64 (Crc16.crc l)) ∧ w = w'

theorem fields_take {f : List (Bs × Bs)} {q : Nat} (h : q < f.length) : It.fieldsS (f.take (q + 1)) = It.fieldsS (f.take q) ++ [(f.getD q ([], [])).1, (f.getD q ([], [])).2] := by
  rw [List.take_succ_eq_append_getElem h, ← It.getD_eq (d := ([], [])) h]
  simp [It.fieldsS]
/-- an item's box. -/
theorem box_at (w : World) (k : Int) (s : Bs) (aF : Option Addr) (nF cF : Nat) (aL : Option Addr) (nL cL : Nat) (e : Int) :
    (w.alloc (itc k s aF nF cF aL nL cL e)).cell? ⟨w.heap.size, 0, none⟩ = some (.int .i64 k) ∧ (w.alloc (itc k s aF nF cF aL nL cL e)).cell? ⟨w.heap.size, 1, none⟩ = some (.string ⟨s.toArray⟩) ∧
    (w.alloc (itc k s aF nF cF aL nL cL e)).cell? ⟨w.heap.size, 2, none⟩ = some (.slice aF nF cF) ∧ (w.alloc (itc k s aF nF cF aL nL cL e)).cell? ⟨w.heap.size, 3, none⟩ = some (.slice aL nL cL) ∧
    (w.alloc (itc k s aF nF cF aL nL cL e)).cell? ⟨w.heap.size, 4, none⟩ = some (.int .i64 e) := by
  have h : (w.alloc (itc k s aF nF cF aL nL cL e)).heap[w.heap.size]? = some (.cells #[.int .i64 k, .string ⟨s.toArray⟩, .slice aF nF cF, .slice aL nL cL, .int .i64 e] 25 (0, 0)) := World.alloc_heap_new w _
  exact ⟨cell_of_row _ _ 0 _ _ _ h, cell_of_row _ _ 1 _ _ _ h, cell_of_row _ _ 2 _ _ _ h, cell_of_row _ _ 3 _ _ _ h, cell_of_row _ _ 4 _ _ _ h⟩
theorem wds_two (w : World) (x y : Bs) (hx : x.length ≤ 1000000) (hy : y.length ≤ 1000000) : Wds (w.alloc (.cells #[.string ⟨x.toArray⟩, .string ⟨y.toArray⟩] 9)) (some ⟨w.heap.size, 0, none⟩) 2 [x, y] :=
  wds_new w [x, y] (by simp) (by simp; omega)
theorem wds_one (w : World) (x : Bs) (hx : x.length ≤ 1000000) : Wds (w.alloc (.cells #[.string ⟨x.toArray⟩] 9)) (some ⟨w.heap.size, 0, none⟩) 1 [x] :=
  wds_new w [x] (by simp) (by simp; omega)

theorem oper_append_w {o : Oper} {a : Act} {K : Act → World → Prop} {Q : Exit → Act → World → Prop} (d : Option Tmp) (hd : o.dst = d) (s x : Operand)
    (ho : o.op = .call { callee := .builtin .append, args := #[s, x], argTypes := #[23, 23] })
    {w W : World} {v : Value} {fs xs : List Dp.Bs} {ax : Option Addr} {c : Nat} (hs : a.eval s = v) (h : RowW w v fs W) (hx : a.eval x = .slice ax xs.length c) (hb : Wds W ax c xs) (hn : ax = Option.none → c = 0) (hl : fs.length ≤ 2000000) (hxl : xs.length ≤ 2000000)
    (hK : ∀ v' W', RowW w v' (fs ++ xs) W' → K (a.put d v') W') : Oper.wp Tryz.prog o a W K Q := by
  subst hd
  obtain ⟨v', W', hr, h2⟩ := run_append_w h hb hn hl hxl o.type
  unfold Oper.wp execOp
  simp only [ho, resolve, invoke, builtin, Sem.run_bind, Sem.run_pure, Result.andThen_ok, List.map_toArray, List.map_cons, List.map_nil, hs, hx, hr]
  exact hK _ _ h2

/-- two bytes as a string. -/
theorem conv_two (w : World) (x y : Int) :
    (convert 36 9 (.slice (some ⟨w.heap.size, 0, none⟩) 2 2)).run Tryz.prog (w.alloc (.cells #[.int .u8 x, .int .u8 y] 5)) = .ok (.string ⟨#[UInt8.ofNat x.toNat, UInt8.ofNat y.toNat]⟩) (w.alloc (.cells #[.int .u8 x, .int .u8 y] 5)) := by
  rw [run_convert_bytes_string _ _ _ _ _ _ _ Tryz.underlying36 Tryz.underlying5 Tryz.underlying9]
  have hl := run_loadCells_list (P := Tryz.prog) (w.alloc (.cells #[.int .u8 x, .int .u8 y] 5)) ⟨w.heap.size, 0, none⟩ ([x, y].map (Value.int .u8)) (fun j u h => by
    have e := cell_of_row (w.alloc (.cells #[.int .u8 x, .int .u8 y] 5)) w.heap.size j #[.int .u8 x, .int .u8 y] 5 (0, 0) (World.alloc_heap_new w _)
    have : (Addr.add ⟨w.heap.size, 0, none⟩ j) = ⟨w.heap.size, j, none⟩ := by
      unfold Addr.add
      split <;> first | omega | rfl | simp
    rw [this, e]
    simpa using h)
  simp only [List.length_map, List.length_cons, List.length_nil] at hl
  rw [run_bytesToString _ _ _ _ [x, y] hl]
  rfl
theorem str_two (B : Bs) : (⟨B.toArray⟩ : ByteArray) ++ ⟨#[UInt8.ofNat (Crc16.crc B / 256 % 256), UInt8.ofNat (Crc16.crc B % 256)]⟩ = ⟨(B ++ crc2 B).toArray⟩ := by
  have h := Crc16.crc_lt B
  have e1 : Crc16.crc B / 256 % 256 = Crc16.crc B / 256 := by omega
  rw [e1]
  apply ByteArray.ext
  simp [crc2, ByteArray.data_append]
set_option maxRecDepth 100000 in
set_option maxHeartbeats 16000000 in
theorem putItem_any (HM : MayC) (HD : DigC) (HW : WordsC) (HC : CrcC) (k x : Int) (s : Bs) (aF : Option Addr) (cF : Nat) (fs : List (Bs × Bs)) (aL : Option Addr) (cL : Nat) (ws : List Bs) (w : World) (hF : Fds w aF cF fs) (hL : Wds w aL cL ws) (hn : aL = none → cL = 0) :
    Calls Tryz.prog 11 #[itv k s aF fs.length cF aL ws.length cL x] w fun e w' => e = .returned (.string ⟨(putS ⟨k, s, fs, ws, x⟩).toArray⟩) ∧ Below w.heap.size w w' := by
  have HMy := Lib.hid (fun W (hb : Below w.heap.size w W) => HM k x s aF cF fs aL cL ws W (hF.later hb) (hL.later hb))
  have HB0 := Lib.hid (box_at w k s aF fs.length cF aL ws.length cL x)
  have hal : Below w.heap.size w (w.alloc (itc k s aF fs.length cF aL ws.length cL x)) := (Below.refl _ _).alloc (Nat.le_refl _) _
  have HAl := Lib.hid hal
  have HF := Lib.hid hF
  have HL := Lib.hid hL
  have HLn := Lib.hid hn
  unfold itv at HMy ⊢
  clear hF hL hn hal
  by_cases hm : It.mayB ⟨k, s, fs, ws, x⟩ = true
  rotate_left
  · rw [Bool.not_eq_true] at hm
    have HP := Lib.hid (show putS ⟨k, s, fs, ws, x⟩ = [] by unfold putS; rw [hm]; rfl)
    rw [hm] at HMy
    clear hm
    go_enter Tryz.func11, Tryz.ntmps11
    go_wp2_with fail
    refine (HMy.out _ HAl.out).mono ?_
    rintro e w1 ⟨rfl, hb⟩
    have HB1 := Lib.hid (HAl.out.trans (hb.mono HAl.out.size))
    clear hb
    go_wp2
    go_ret
    exact ⟨by rw [HP.out]; rfl, HB1.out⟩
  have HP := Lib.hid (show putS ⟨k, s, fs, ws, x⟩ = dumpS ⟨k, s, fs, ws, x⟩ by unfold putS; rw [hm]; rfl)
  rw [hm] at HMy
  obtain ⟨x0, x1, hT, hC⟩ := may_cases hm
  have HWl := Lib.hid (wordsI_len hm)
  have HWe := Lib.hid (wordsI_each hm)
  simp only at x0 x1 hC
  have hfl : fs.length ≤ 40 := by rcases hC with ⟨-, rfl, -⟩ | ⟨-, -, -, h, -⟩ | ⟨-, -, rfl, -⟩ <;> first | (simp; done) | omega
  have hk4 : 1 ≤ k ∧ k ≤ 4 := by rcases hC with ⟨h, -⟩ | ⟨h, -⟩ | ⟨h, -⟩ <;> omega
  have hI : (if k = 1 then [s] else []) ++ It.fieldsS fs ++ ws = if k = 1 then [s] else if k = 2 then It.fieldsS fs else ws := by
    rcases hC with ⟨rfl, rfl, rfl⟩ | ⟨rfl, rfl, -, -, -, rfl⟩ | ⟨h, rfl, rfl, -⟩
    · simp [It.fieldsS]
    · simp
    · rw [if_neg (by omega), if_neg (by omega), if_neg (by omega)]; simp [It.fieldsS]
  have HI := Lib.hid (show Dig.dec k :: Dig.dec x :: ((if k = 1 then [s] else []) ++ It.fieldsS fs ++ ws) = wordsI ⟨k, s, fs, ws, x⟩ by rw [hI]; rfl)
  have hsl : s.length ≤ 300 := hT s (List.mem_cons_self ..)
  have HFt := Lib.hid (fun j (hj : j < fs.length) => show (fs.getD j ([], [])).1.length ≤ 300 ∧ (fs.getD j ([], [])).2.length ≤ 300 from by
    rw [It.getD_eq hj]
    have hmem := List.getElem_mem hj
    have h2 : ∀ u ∈ It.fieldsS fs, u.length ≤ 300 := fun u hu => hT u (List.mem_cons_of_mem _ (List.mem_append_left _ hu))
    exact ⟨h2 _ (List.mem_flatMap.2 ⟨_, hmem, by simp⟩), h2 _ (List.mem_flatMap.2 ⟨_, hmem, by simp⟩)⟩)
  have HDk := Lib.hid (fun W => HD k W (by omega) (by omega))
  have HDx := Lib.hid (fun W => HD x W (by omega) (by omega))
  have hws : ws.length ≤ 82 := by rcases hC with ⟨-, -, rfl⟩ | ⟨-, -, -, -, -, rfl⟩ | ⟨-, -, -, -, h⟩ <;> first | (simp; done) | omega
  have HHW := Lib.hid HW
  have HHC := Lib.hid HC
  obtain ⟨IT, hIT⟩ : ∃ IT, (⟨k, s, fs, ws, x⟩ : It.I) = IT := ⟨_, rfl⟩
  rw [hIT] at HP HWl HWe HI ⊢
  clear hm hI hT hC HM HD HW HC hIT
  go_enter Tryz.func11, Tryz.ntmps11
  go_wp2_with fail
  refine (HMy.out _ HAl.out).mono ?_
  rintro e w1 ⟨rfl, hb⟩
  obtain ⟨b0, b1, b2, b3, b4⟩ := HB0.out
  replace b0 := cell_next b0 hb
  replace b1 := cell_next b1 hb
  replace b2 := cell_next b2 hb
  replace b3 := cell_next b3 hb
  replace b4 := cell_next b4 hb
  have HB1 := Lib.hid (HAl.out.trans (hb.mono HAl.out.size))
  clear hb HMy HB0
  go_wp2
  have HS0 : w1.drew.cell? ⟨w.heap.size, 0, none⟩ = some (.int .i64 k) ∧ w1.drew.cell? ⟨w.heap.size, 4, none⟩ = some (.int .i64 x) := ⟨(World.cell?_drew _ _).trans b0, (World.cell?_drew _ _).trans b4⟩
  refine wp_region_L (S := fun W => W.cell? ⟨w.heap.size, 0, none⟩ = some (.int .i64 k) ∧ W.cell? ⟨w.heap.size, 4, none⟩ = some (.int .i64 x)) (f := 7) (by kernel_rfl) ?_
  refine wpAnyL_take (i := 0) (some 10) (v := .pointer (some ⟨w.heap.size, 0, none⟩)) rfl rfl (by kernel_rfl) (by kernel_rfl) (by kernel_rfl) (by kernel_rfl) (fun _ _ _ h => h) (by rfl) (fun W hS => ?_) HS0 ?_
  · obtain ⟨m0, m1⟩ := hS
    go_simp
  try simp only [Act.put, List.setIfInBounds_toArray, List.set_cons_zero, List.set_cons_succ]
  refine wpAnyL_take (i := 1) (some 11) (v := .int .i64 k) rfl rfl (by kernel_rfl) (by kernel_rfl) (by kernel_rfl) (by kernel_rfl) (fun _ _ _ h => h) (by rfl) (fun W hS => ?_) HS0 ?_
  · obtain ⟨m0, m1⟩ := hS
    go_simp
  try simp only [Act.put, List.setIfInBounds_toArray, List.set_cons_zero, List.set_cons_succ]
  refine wpAnyL_take (i := 3) (some 13) (v := .pointer (some ⟨w.heap.size, 4, none⟩)) rfl rfl (by kernel_rfl) (by kernel_rfl) (by kernel_rfl) (by kernel_rfl) (fun _ _ _ h => h) (by rfl) (fun W hS => ?_) HS0 ?_
  · obtain ⟨m0, m1⟩ := hS
    go_simp
  try simp only [Act.put, List.setIfInBounds_toArray, List.set_cons_zero, List.set_cons_succ]
  refine wpAnyL_take (i := 4) (some 14) (v := .int .i64 x) rfl rfl (by kernel_rfl) (by kernel_rfl) (by kernel_rfl) (by kernel_rfl) (fun _ _ _ h => h) (by rfl) (fun W hS => ?_) HS0 ?_
  · obtain ⟨m0, m1⟩ := hS
    go_simp
  try simp only [Act.put, List.setIfInBounds_toArray, List.set_cons_zero, List.set_cons_succ]
  refine wpAnyL_one (j := 2) (by kernel_rfl) rfl (by rfl) (fun K hK => ?_)
  go_simp
  with_reducible refine (HDk.out _).mono ?_
  rintro e w2 ⟨rfl, hb⟩
  have HS1 := And.intro (cell_next HS0.1 hb) (cell_next HS0.2 hb)
  have HB2 := Lib.hid (((Below.refl w1.heap.size w1).drew).trans hb)
  clear hb
  refine hK _ _ (fun _ => HS1) ?_
  clear hK K
  try simp only [Act.put, List.setIfInBounds_toArray, List.set_cons_zero, List.set_cons_succ]
  refine wpAnyL_one (j := 5) (by kernel_rfl) rfl (by rfl) (fun K hK => ?_)
  go_simp
  with_reducible refine (HDx.out _).mono ?_
  rintro e w3 ⟨rfl, hb⟩
  have HS2 := And.intro (cell_next HS1.1 hb) (cell_next HS1.2 hb)
  have HB3 := Lib.hid (HB2.out.trans (hb.mono HB2.out.size))
  clear hb
  refine hK _ _ (fun _ => HS2) ?_
  clear hK K
  try simp only [Act.put, List.setIfInBounds_toArray, List.set_cons_zero, List.set_cons_succ]
  refine wpAnyL_one (j := 6) (by kernel_rfl) rfl (by rfl) (fun K hK => ?_)
  refine oper_wp_val (v := .slice (some ⟨w3.heap.size, 0, none⟩) 2 2) (w' := w3.alloc (.cells #[.string ⟨(Dig.dec k).toArray⟩, .string ⟨(Dig.dec x).toArray⟩] 9)) (by go_simp) ?_
  have hr3 := rowW_two HB3.out (Dig.dec k) (Dig.dec x)
  have hb34 : Below w3.heap.size w3 (w3.alloc (.cells #[.string ⟨(Dig.dec k).toArray⟩, .string ⟨(Dig.dec x).toArray⟩] 9)) := (Below.refl _ _).alloc (Nat.le_refl _) _
  have HS3 := And.intro (cell_next HS2.1 hb34) (cell_next HS2.2 hb34)
  have HB4 := Lib.hid (HB3.out.trans (hb34.mono HB3.out.size))
  have HR4 := Lib.hid hr3
  clear hr3 hb34
  refine hK _ _ (fun _ => HS3) ?_
  clear hK K
  try simp only [Act.put, List.setIfInBounds_toArray, List.set_cons_zero, List.set_cons_succ]
  refine wpAnyL_one (j := 7) (by kernel_rfl) rfl (by rfl) (fun K hK => ?_)
  go_simp
  refine hK _ _ (fun h => (h rfl).elim) ?_
  clear hK K
  try simp only [Act.put, List.setIfInBounds_toArray, List.set_cons_zero, List.set_cons_succ]
  refine wpAnyL_done (by kernel_rfl) ?_ _
  obtain ⟨w4, hw4⟩ : ∃ w4, w3.alloc (.cells #[.string ⟨(Dig.dec k).toArray⟩, .string ⟨(Dig.dec x).toArray⟩] 9) = w4 := ⟨_, rfl⟩
  rw [hw4] at HS3 HB4 HR4 ⊢
  obtain ⟨g3, hg3⟩ : ∃ g, w3.heap.size = g := ⟨_, rfl⟩
  rw [hg3] at HR4 ⊢
  have hsz : w.heap.size < w1.heap.size := World.block_lt_of_cell? w1 _ b0
  clear hw4 hg3 HS0 HS1 HS2 HB2 HB3
  have HBx := Lib.hid (And.intro b0 (And.intro b1 (And.intro b2 (And.intro b3 b4))))
  clear HS3 b2 b3 b4
  have c0 := (HB4.out.cell (p := ⟨w.heap.size, 0, none⟩) hsz).trans b0
  have c1 := (HB4.out.cell (p := ⟨w.heap.size, 1, none⟩) hsz).trans b1
  clear b0 b1
  by_cases hk1 : k = 1
  all_goals
    obtain ⟨P, hP⟩ : ∃ P, Dig.dec k :: Dig.dec x :: (if k = 1 then [s] else []) = P := ⟨_, rfl⟩
    have hPl : P.length ≤ 3 := by rw [← hP]; split <;> simp
  · rw [if_pos hk1] at hP
    have HPI : Hid (P ++ It.fieldsS fs ++ ws = wordsI IT) := Lib.hid (by rw [← HI.out, if_pos hk1, ← hP]; simp)
    have HR5 : Hid (RowW w1 (.slice (some ⟨g3, 0, none⟩) 2 2) [Dig.dec k, Dig.dec x] w4) := HR4
    subst hk1
    go_wp2_with (at_builtin; refine wpList_append_w rfl (.tmp 20) (.tmp 23) rfl rfl (HR5.out.later ((Below.refl _ _).alloc (Nat.le_refl _) _)) rfl (wds_one _ s (by omega)) (fun h => by cases h) (by simp) (by simp) ?_)
    intro v5 w5 hr5
    have HR6 : Hid (RowW w1 v5 P w5) := Lib.hid (by first | exact hr5 | (rw [← hP]; exact hr5))
    clear hr5 hP HR4 HR5 c0 c1 HB4
    go_wp2
    go_loopw [3, 4] (fun u i wr => ∃ q : Nat, q ≤ fs.length ∧ i = .int .i64 q ∧ Hid (RowW w1 u (P ++ It.fieldsS (fs.take q)) wr)) (fun _ i _ => fs.length - (intOf i).toNat)
    case atStart => exact ⟨0, Nat.zero_le _, rfl, Lib.hid (by simpa [It.fieldsS] using HR6.out)⟩
    case round =>
      obtain ⟨q, hq, rfl, HQ⟩ := hrel
      have c2 := (HQ.out.2.cell (p := ⟨w.heap.size, 2, none⟩) hsz).trans HBx.out.2.2.1
      have q0 : (0 : Int) ≤ (q : Int) := by omega
      by_cases hlt : q < fs.length
      · have q1 : (q : Int) < (fs.length : Int) := by omega
        obtain ⟨b, off, rfl, hbl, hcc⟩ := HF.out.get (by omega)
        obtain ⟨z0, z1⟩ := hcc q hlt
        have hwr := HB1.out.trans (HQ.out.2.mono HB1.out.size)
        replace z0 := (hwr.cell (p := ⟨b, off + q * 2, none⟩) hbl).trans z0
        replace z1 := (hwr.cell (p := ⟨b, off + q * 2 + 1, none⟩) hbl).trans z1
        have HTk := Lib.hid (fields_take hlt)
        obtain ⟨hu1, hu2⟩ := HFt.out q hlt
        obtain ⟨n1, hn1⟩ : ∃ n1, (fs.getD q ([], [])).1 = n1 := ⟨_, rfl⟩
        obtain ⟨n2, hn2⟩ : ∃ n2, (fs.getD q ([], [])).2 = n2 := ⟨_, rfl⟩
        rw [hn1] at z0 hu1 HTk
        rw [hn2] at z1 hu2 HTk
        have HZ := Lib.hid (show w.cell? ⟨b, off + q * 2, none⟩ = some (.string ⟨n1.toArray⟩) ∧ w.cell? ⟨b, off + q * 2 + 1, none⟩ = some (.string ⟨n2.toArray⟩) from by rw [← hn1, ← hn2]; exact hcc q hlt)
        have hpl : (P ++ It.fieldsS (fs.take q)).length ≤ 1000 := by rw [List.length_append, fieldsS_len, List.length_take]; omega
        obtain ⟨L, hL⟩ : ∃ L, P ++ It.fieldsS (fs.take q) = L := ⟨_, rfl⟩
        rw [hL] at HQ hpl
        have HTk2 : Hid (P ++ It.fieldsS (fs.take (q + 1)) = L ++ [n1, n2]) := Lib.hid (by rw [HTk.out, ← List.append_assoc, hL])
        clear hcc hn1 hn2 hL hwr HTk
        go_wp2
        have HS0 : wr.drew.cell? ⟨w.heap.size, 2, none⟩ = some (.slice (some ⟨b, off, none⟩) fs.length cF) ∧ wr.drew.cell? ⟨b, off + q * 2, none⟩ = some (.string ⟨n1.toArray⟩) ∧ wr.drew.cell? ⟨b, off + q * 2 + 1, none⟩ = some (.string ⟨n2.toArray⟩) := ⟨(World.cell?_drew _ _).trans c2, (World.cell?_drew _ _).trans z0, (World.cell?_drew _ _).trans z1⟩
        refine wp_region_L (S := fun W => W.cell? ⟨w.heap.size, 2, none⟩ = some (.slice (some ⟨b, off, none⟩) fs.length cF) ∧ W.cell? ⟨b, off + q * 2, none⟩ = some (.string ⟨n1.toArray⟩) ∧ W.cell? ⟨b, off + q * 2 + 1, none⟩ = some (.string ⟨n2.toArray⟩)) (f := 15) (by kernel_rfl) ?_
        refine wpAnyL_take (i := 0) (some 32) (v := u3) rfl rfl (by kernel_rfl) (by kernel_rfl) (by kernel_rfl) (by kernel_rfl) (fun _ _ _ h => h) (by rfl) (fun W hS => ?_) HS0 ?_
        · obtain ⟨m0, m1, m2⟩ := hS
          go_simp
        try simp only [Act.put, List.setIfInBounds_toArray, List.set_cons_zero, List.set_cons_succ]
        refine wpAnyL_take (i := 1) (some 33) (v := .pointer (some ⟨w.heap.size, 2, none⟩)) rfl rfl (by kernel_rfl) (by kernel_rfl) (by kernel_rfl) (by kernel_rfl) (fun _ _ _ h => h) (by rfl) (fun W hS => ?_) HS0 ?_
        · obtain ⟨m0, m1, m2⟩ := hS
          go_simp
        try simp only [Act.put, List.setIfInBounds_toArray, List.set_cons_zero, List.set_cons_succ]
        refine wpAnyL_take (i := 2) (some 34) (v := .slice (some ⟨b, off, none⟩) fs.length cF) rfl rfl (by kernel_rfl) (by kernel_rfl) (by kernel_rfl) (by kernel_rfl) (fun _ _ _ h => h) (by rfl) (fun W hS => ?_) HS0 ?_
        · obtain ⟨m0, m1, m2⟩ := hS
          go_simp
        try simp only [Act.put, List.setIfInBounds_toArray, List.set_cons_zero, List.set_cons_succ]
        refine wpAnyL_take (i := 3) (some 35) (v := .int .i64 q) rfl rfl (by kernel_rfl) (by kernel_rfl) (by kernel_rfl) (by kernel_rfl) (fun _ _ _ h => h) (by rfl) (fun W hS => ?_) HS0 ?_
        · obtain ⟨m0, m1, m2⟩ := hS
          go_simp
        try simp only [Act.put, List.setIfInBounds_toArray, List.set_cons_zero, List.set_cons_succ]
        refine wpAnyL_take (i := 4) (some 36) (v := .pointer (some ⟨b, off + q * 2, none⟩)) rfl rfl (by kernel_rfl) (by kernel_rfl) (by kernel_rfl) (by kernel_rfl) (fun _ _ _ h => h) (by rfl) (fun W hS => ?_) HS0 ?_
        · obtain ⟨m0, m1, m2⟩ := hS
          go_simp
        try simp only [Act.put, List.setIfInBounds_toArray, List.set_cons_zero, List.set_cons_succ]
        refine wpAnyL_take (i := 5) (some 37) (v := .pointer (some ⟨b, off + q * 2, none⟩)) rfl rfl (by kernel_rfl) (by kernel_rfl) (by kernel_rfl) (by kernel_rfl) (fun _ _ _ h => h) (by rfl) (fun W hS => ?_) HS0 ?_
        · obtain ⟨m0, m1, m2⟩ := hS
          go_simp
        try simp only [Act.put, List.setIfInBounds_toArray, List.set_cons_zero, List.set_cons_succ]
        refine wpAnyL_take (i := 6) (some 38) (v := .string ⟨n1.toArray⟩) rfl rfl (by kernel_rfl) (by kernel_rfl) (by kernel_rfl) (by kernel_rfl) (fun _ _ _ h => h) (by rfl) (fun W hS => ?_) HS0 ?_
        · obtain ⟨m0, m1, m2⟩ := hS
          go_simp
        try simp only [Act.put, List.setIfInBounds_toArray, List.set_cons_zero, List.set_cons_succ]
        refine wpAnyL_take (i := 7) (some 39) (v := .pointer (some ⟨w.heap.size, 2, none⟩)) rfl rfl (by kernel_rfl) (by kernel_rfl) (by kernel_rfl) (by kernel_rfl) (fun _ _ _ h => h) (by rfl) (fun W hS => ?_) HS0 ?_
        · obtain ⟨m0, m1, m2⟩ := hS
          go_simp
        try simp only [Act.put, List.setIfInBounds_toArray, List.set_cons_zero, List.set_cons_succ]
        refine wpAnyL_take (i := 8) (some 40) (v := .slice (some ⟨b, off, none⟩) fs.length cF) rfl rfl (by kernel_rfl) (by kernel_rfl) (by kernel_rfl) (by kernel_rfl) (fun _ _ _ h => h) (by rfl) (fun W hS => ?_) HS0 ?_
        · obtain ⟨m0, m1, m2⟩ := hS
          go_simp
        try simp only [Act.put, List.setIfInBounds_toArray, List.set_cons_zero, List.set_cons_succ]
        refine wpAnyL_take (i := 9) (some 41) (v := .int .i64 q) rfl rfl (by kernel_rfl) (by kernel_rfl) (by kernel_rfl) (by kernel_rfl) (fun _ _ _ h => h) (by rfl) (fun W hS => ?_) HS0 ?_
        · obtain ⟨m0, m1, m2⟩ := hS
          go_simp
        try simp only [Act.put, List.setIfInBounds_toArray, List.set_cons_zero, List.set_cons_succ]
        refine wpAnyL_take (i := 10) (some 42) (v := .pointer (some ⟨b, off + q * 2, none⟩)) rfl rfl (by kernel_rfl) (by kernel_rfl) (by kernel_rfl) (by kernel_rfl) (fun _ _ _ h => h) (by rfl) (fun W hS => ?_) HS0 ?_
        · obtain ⟨m0, m1, m2⟩ := hS
          go_simp
        try simp only [Act.put, List.setIfInBounds_toArray, List.set_cons_zero, List.set_cons_succ]
        refine wpAnyL_take (i := 11) (some 43) (v := .pointer (some ⟨b, off + q * 2 + 1, none⟩)) rfl rfl (by kernel_rfl) (by kernel_rfl) (by kernel_rfl) (by kernel_rfl) (fun _ _ _ h => h) (by rfl) (fun W hS => ?_) HS0 ?_
        · obtain ⟨m0, m1, m2⟩ := hS
          go_simp
        try simp only [Act.put, List.setIfInBounds_toArray, List.set_cons_zero, List.set_cons_succ]
        refine wpAnyL_take (i := 12) (some 44) (v := .string ⟨n2.toArray⟩) rfl rfl (by kernel_rfl) (by kernel_rfl) (by kernel_rfl) (by kernel_rfl) (fun _ _ _ h => h) (by rfl) (fun W hS => ?_) HS0 ?_
        · obtain ⟨m0, m1, m2⟩ := hS
          go_simp
        try simp only [Act.put, List.setIfInBounds_toArray, List.set_cons_zero, List.set_cons_succ]
        refine wpAnyL_one (j := 13) (by kernel_rfl) rfl (by rfl) (fun K hK => ?_)
        refine oper_wp_val (v := .slice (some ⟨wr.heap.size, 0, none⟩) 2 2) (w' := wr.drew.alloc (.cells #[.string ⟨n1.toArray⟩, .string ⟨n2.toArray⟩] 9)) (by go_simp) ?_
        have hb5 : Below wr.heap.size wr (wr.drew.alloc (.cells #[.string ⟨n1.toArray⟩, .string ⟨n2.toArray⟩] 9)) := (Below.refl _ _).drew.alloc (Nat.le_refl _) _
        have HS1 := And.intro (cell_next c2 hb5) (And.intro (cell_next z0 hb5) (cell_next z1 hb5))
        have HR7 := Lib.hid (HQ.out.later hb5)
        clear hb5
        refine hK _ _ (fun _ => HS1) ?_
        clear hK K
        try simp only [Act.put, List.setIfInBounds_toArray, List.set_cons_zero, List.set_cons_succ]
        refine wpAnyL_one (j := 14) (by kernel_rfl) rfl (by rfl) (fun K hK => ?_)
        refine oper_append_w (some 46) rfl (.tmp 32) (.tmp 45) rfl rfl HR7.out rfl (wds_two wr.drew n1 n2 (by omega) (by omega)) (fun h => by cases h) (by omega) (by simp) ?_
        intro v6 w6 hr6
        have hb6 := hr6.2
        have HS2 := And.intro ((hb6.cell (p := ⟨w.heap.size, 2, none⟩) hsz).trans HBx.out.2.2.1) (And.intro (((HB1.out.trans (hb6.mono HB1.out.size)).cell (p := ⟨b, off + q * 2, none⟩) hbl).trans HZ.out.1) (((HB1.out.trans (hb6.mono HB1.out.size)).cell (p := ⟨b, off + q * 2 + 1, none⟩) hbl).trans HZ.out.2))
        have HR8 := Lib.hid hr6
        clear hr6 hb6
        refine hK _ _ (fun _ => HS2) ?_
        clear hK K
        try simp only [Act.put, List.setIfInBounds_toArray, List.set_cons_zero, List.set_cons_succ]
        refine wpAnyL_one (j := 15) (by kernel_rfl) rfl (by rfl) (fun K hK => ?_)
        go_simp
        refine hK _ _ (fun h => (h rfl).elim) ?_
        clear hK K
        try simp only [Act.put, List.setIfInBounds_toArray, List.set_cons_zero, List.set_cons_succ]
        refine wpAnyL_done (by kernel_rfl) ?_ _
        clear HS0 HS1 HS2 HR7
        go_wp2
        go_roundw
        case rel => exact ⟨q + 1, by omega, by go_num, by rw [HTk2.out]; exact HR8⟩
        case measure => simp [intOf]; omega
      · obtain rfl : q = fs.length := by omega
        rw [List.take_length] at HQ
        have q1 : ¬ (fs.length : Int) < (fs.length : Int) := by omega
        have hpl : (P ++ It.fieldsS fs).length ≤ 1000 := by rw [List.length_append, fieldsS_len]; omega
        have c3 := (HQ.out.2.cell (p := ⟨w.heap.size, 3, none⟩) hsz).trans HBx.out.2.2.2.1
        have HL2 := Lib.hid (HL.out.later (HB1.out.trans (HQ.out.2.mono HB1.out.size)))
        go_wp2_with (at_builtin; refine wpList_append_w rfl (.tmp 47) (.tmp 49) rfl rfl HQ.out rfl HL2.out HLn.out (by omega) (by omega) ?_)
        intro v6 w6 hr6
        replace hr6 : RowW w1 v6 (wordsI IT) w6 := by rw [← HPI.out]; first | exact hr6 | (rw [List.append_assoc]; exact hr6)
        obtain ⟨a7, c7, rfl, hwd, -⟩ := row_open hr6 (fun t ht => by have := HWe.out t ht; omega)
        have hwl := HWl.out.2
        have HWc := Lib.hid (HHW.out a7 c7 _ w6 hwd hwl HWe.out)
        have HB6 := Lib.hid (HB1.out.trans (hr6.2.mono HB1.out.size))
        have hel := encW_len hwl HWe.out
        clear hr6 hwd hwl
        go_wp2_with fail
        refine HWc.out.mono ?_
        rintro e w7 ⟨rfl, hb⟩
        have HB7 := Lib.hid (HB6.out.trans (hb.mono HB6.out.size))
        clear hb HWc
        obtain ⟨B, hB⟩ : ∃ B, encW (wordsI IT) = B := ⟨_, rfl⟩
        have HPu := Lib.hid (show putS IT = B ++ crc2 B by rw [HP.out, ← hB]; rfl)
        rw [hB] at hel ⊢
        clear hB
        go_wp2_with fail
        refine (HHC.out B w7 hel).mono ?_
        rintro e w8 ⟨rfl, rfl⟩
        have hcv := conv_two w7 (((Crc16.crc B : Nat) : Int) / 256 % 256) (((Crc16.crc B : Nat) : Int) % 256)
        have hsB := Lib.hid (str_two B)
        go_wp2
        go_ret
        refine ⟨?_, HB7.out.trans (((Below.refl _ w7).alloc (Nat.le_refl _) _).mono HB7.out.size)⟩
        rw [HPu.out]
        exact congrArg (fun t => Ending.returned (Value.string t)) hsB.out
  · rw [if_neg hk1] at hP
    have HPI : Hid (P ++ It.fieldsS fs ++ ws = wordsI IT) := Lib.hid (by rw [← HI.out, if_neg hk1, ← hP]; simp)
    obtain ⟨v5, hv5⟩ : ∃ v5, Value.slice (some ⟨g3, 0, none⟩) 2 2 = v5 := ⟨_, rfl⟩
    obtain ⟨w5, hw5⟩ : ∃ w5, w4 = w5 := ⟨_, rfl⟩
    have HR6 : Hid (RowW w1 v5 P w5) := Lib.hid (by rw [← hP, ← hv5, ← hw5]; exact HR4.out)
    rw [hv5]
    subst hw5
    have kB : (k == 1) = false := beq_eq_false_iff_ne.2 hk1
    clear hP HR4 HB4 hv5
    go_wp2
    go_loopw [3, 4] (fun u i wr => ∃ q : Nat, q ≤ fs.length ∧ i = .int .i64 q ∧ Hid (RowW w1 u (P ++ It.fieldsS (fs.take q)) wr)) (fun _ i _ => fs.length - (intOf i).toNat)
    case atStart => exact ⟨0, Nat.zero_le _, rfl, Lib.hid (by simpa [It.fieldsS] using HR6.out)⟩
    case round =>
      obtain ⟨q, hq, rfl, HQ⟩ := hrel
      have c2 := (HQ.out.2.cell (p := ⟨w.heap.size, 2, none⟩) hsz).trans HBx.out.2.2.1
      have q0 : (0 : Int) ≤ (q : Int) := by omega
      by_cases hlt : q < fs.length
      · have q1 : (q : Int) < (fs.length : Int) := by omega
        obtain ⟨b, off, rfl, hbl, hcc⟩ := HF.out.get (by omega)
        obtain ⟨z0, z1⟩ := hcc q hlt
        have hwr := HB1.out.trans (HQ.out.2.mono HB1.out.size)
        replace z0 := (hwr.cell (p := ⟨b, off + q * 2, none⟩) hbl).trans z0
        replace z1 := (hwr.cell (p := ⟨b, off + q * 2 + 1, none⟩) hbl).trans z1
        have HTk := Lib.hid (fields_take hlt)
        obtain ⟨hu1, hu2⟩ := HFt.out q hlt
        obtain ⟨n1, hn1⟩ : ∃ n1, (fs.getD q ([], [])).1 = n1 := ⟨_, rfl⟩
        obtain ⟨n2, hn2⟩ : ∃ n2, (fs.getD q ([], [])).2 = n2 := ⟨_, rfl⟩
        rw [hn1] at z0 hu1 HTk
        rw [hn2] at z1 hu2 HTk
        have HZ := Lib.hid (show w.cell? ⟨b, off + q * 2, none⟩ = some (.string ⟨n1.toArray⟩) ∧ w.cell? ⟨b, off + q * 2 + 1, none⟩ = some (.string ⟨n2.toArray⟩) from by rw [← hn1, ← hn2]; exact hcc q hlt)
        have hpl : (P ++ It.fieldsS (fs.take q)).length ≤ 1000 := by rw [List.length_append, fieldsS_len, List.length_take]; omega
        obtain ⟨L, hL⟩ : ∃ L, P ++ It.fieldsS (fs.take q) = L := ⟨_, rfl⟩
        rw [hL] at HQ hpl
        have HTk2 : Hid (P ++ It.fieldsS (fs.take (q + 1)) = L ++ [n1, n2]) := Lib.hid (by rw [HTk.out, ← List.append_assoc, hL])
        clear hcc hn1 hn2 hL hwr HTk
        go_wp2
        have HS0 : wr.drew.cell? ⟨w.heap.size, 2, none⟩ = some (.slice (some ⟨b, off, none⟩) fs.length cF) ∧ wr.drew.cell? ⟨b, off + q * 2, none⟩ = some (.string ⟨n1.toArray⟩) ∧ wr.drew.cell? ⟨b, off + q * 2 + 1, none⟩ = some (.string ⟨n2.toArray⟩) := ⟨(World.cell?_drew _ _).trans c2, (World.cell?_drew _ _).trans z0, (World.cell?_drew _ _).trans z1⟩
        refine wp_region_L (S := fun W => W.cell? ⟨w.heap.size, 2, none⟩ = some (.slice (some ⟨b, off, none⟩) fs.length cF) ∧ W.cell? ⟨b, off + q * 2, none⟩ = some (.string ⟨n1.toArray⟩) ∧ W.cell? ⟨b, off + q * 2 + 1, none⟩ = some (.string ⟨n2.toArray⟩)) (f := 15) (by kernel_rfl) ?_
        refine wpAnyL_take (i := 0) (some 32) (v := u3) rfl rfl (by kernel_rfl) (by kernel_rfl) (by kernel_rfl) (by kernel_rfl) (fun _ _ _ h => h) (by rfl) (fun W hS => ?_) HS0 ?_
        · obtain ⟨m0, m1, m2⟩ := hS
          go_simp
        try simp only [Act.put, List.setIfInBounds_toArray, List.set_cons_zero, List.set_cons_succ]
        refine wpAnyL_take (i := 1) (some 33) (v := .pointer (some ⟨w.heap.size, 2, none⟩)) rfl rfl (by kernel_rfl) (by kernel_rfl) (by kernel_rfl) (by kernel_rfl) (fun _ _ _ h => h) (by rfl) (fun W hS => ?_) HS0 ?_
        · obtain ⟨m0, m1, m2⟩ := hS
          go_simp
        try simp only [Act.put, List.setIfInBounds_toArray, List.set_cons_zero, List.set_cons_succ]
        refine wpAnyL_take (i := 2) (some 34) (v := .slice (some ⟨b, off, none⟩) fs.length cF) rfl rfl (by kernel_rfl) (by kernel_rfl) (by kernel_rfl) (by kernel_rfl) (fun _ _ _ h => h) (by rfl) (fun W hS => ?_) HS0 ?_
        · obtain ⟨m0, m1, m2⟩ := hS
          go_simp
        try simp only [Act.put, List.setIfInBounds_toArray, List.set_cons_zero, List.set_cons_succ]
        refine wpAnyL_take (i := 3) (some 35) (v := .int .i64 q) rfl rfl (by kernel_rfl) (by kernel_rfl) (by kernel_rfl) (by kernel_rfl) (fun _ _ _ h => h) (by rfl) (fun W hS => ?_) HS0 ?_
        · obtain ⟨m0, m1, m2⟩ := hS
          go_simp
        try simp only [Act.put, List.setIfInBounds_toArray, List.set_cons_zero, List.set_cons_succ]
        refine wpAnyL_take (i := 4) (some 36) (v := .pointer (some ⟨b, off + q * 2, none⟩)) rfl rfl (by kernel_rfl) (by kernel_rfl) (by kernel_rfl) (by kernel_rfl) (fun _ _ _ h => h) (by rfl) (fun W hS => ?_) HS0 ?_
        · obtain ⟨m0, m1, m2⟩ := hS
          go_simp
        try simp only [Act.put, List.setIfInBounds_toArray, List.set_cons_zero, List.set_cons_succ]
        refine wpAnyL_take (i := 5) (some 37) (v := .pointer (some ⟨b, off + q * 2, none⟩)) rfl rfl (by kernel_rfl) (by kernel_rfl) (by kernel_rfl) (by kernel_rfl) (fun _ _ _ h => h) (by rfl) (fun W hS => ?_) HS0 ?_
        · obtain ⟨m0, m1, m2⟩ := hS
          go_simp
        try simp only [Act.put, List.setIfInBounds_toArray, List.set_cons_zero, List.set_cons_succ]
        refine wpAnyL_take (i := 6) (some 38) (v := .string ⟨n1.toArray⟩) rfl rfl (by kernel_rfl) (by kernel_rfl) (by kernel_rfl) (by kernel_rfl) (fun _ _ _ h => h) (by rfl) (fun W hS => ?_) HS0 ?_
        · obtain ⟨m0, m1, m2⟩ := hS
          go_simp
        try simp only [Act.put, List.setIfInBounds_toArray, List.set_cons_zero, List.set_cons_succ]
        refine wpAnyL_take (i := 7) (some 39) (v := .pointer (some ⟨w.heap.size, 2, none⟩)) rfl rfl (by kernel_rfl) (by kernel_rfl) (by kernel_rfl) (by kernel_rfl) (fun _ _ _ h => h) (by rfl) (fun W hS => ?_) HS0 ?_
        · obtain ⟨m0, m1, m2⟩ := hS
          go_simp
        try simp only [Act.put, List.setIfInBounds_toArray, List.set_cons_zero, List.set_cons_succ]
        refine wpAnyL_take (i := 8) (some 40) (v := .slice (some ⟨b, off, none⟩) fs.length cF) rfl rfl (by kernel_rfl) (by kernel_rfl) (by kernel_rfl) (by kernel_rfl) (fun _ _ _ h => h) (by rfl) (fun W hS => ?_) HS0 ?_
        · obtain ⟨m0, m1, m2⟩ := hS
          go_simp
        try simp only [Act.put, List.setIfInBounds_toArray, List.set_cons_zero, List.set_cons_succ]
        refine wpAnyL_take (i := 9) (some 41) (v := .int .i64 q) rfl rfl (by kernel_rfl) (by kernel_rfl) (by kernel_rfl) (by kernel_rfl) (fun _ _ _ h => h) (by rfl) (fun W hS => ?_) HS0 ?_
        · obtain ⟨m0, m1, m2⟩ := hS
          go_simp
        try simp only [Act.put, List.setIfInBounds_toArray, List.set_cons_zero, List.set_cons_succ]
        refine wpAnyL_take (i := 10) (some 42) (v := .pointer (some ⟨b, off + q * 2, none⟩)) rfl rfl (by kernel_rfl) (by kernel_rfl) (by kernel_rfl) (by kernel_rfl) (fun _ _ _ h => h) (by rfl) (fun W hS => ?_) HS0 ?_
        · obtain ⟨m0, m1, m2⟩ := hS
          go_simp
        try simp only [Act.put, List.setIfInBounds_toArray, List.set_cons_zero, List.set_cons_succ]
        refine wpAnyL_take (i := 11) (some 43) (v := .pointer (some ⟨b, off + q * 2 + 1, none⟩)) rfl rfl (by kernel_rfl) (by kernel_rfl) (by kernel_rfl) (by kernel_rfl) (fun _ _ _ h => h) (by rfl) (fun W hS => ?_) HS0 ?_
        · obtain ⟨m0, m1, m2⟩ := hS
          go_simp
        try simp only [Act.put, List.setIfInBounds_toArray, List.set_cons_zero, List.set_cons_succ]
        refine wpAnyL_take (i := 12) (some 44) (v := .string ⟨n2.toArray⟩) rfl rfl (by kernel_rfl) (by kernel_rfl) (by kernel_rfl) (by kernel_rfl) (fun _ _ _ h => h) (by rfl) (fun W hS => ?_) HS0 ?_
        · obtain ⟨m0, m1, m2⟩ := hS
          go_simp
        try simp only [Act.put, List.setIfInBounds_toArray, List.set_cons_zero, List.set_cons_succ]
        refine wpAnyL_one (j := 13) (by kernel_rfl) rfl (by rfl) (fun K hK => ?_)
        refine oper_wp_val (v := .slice (some ⟨wr.heap.size, 0, none⟩) 2 2) (w' := wr.drew.alloc (.cells #[.string ⟨n1.toArray⟩, .string ⟨n2.toArray⟩] 9)) (by go_simp) ?_
        have hb5 : Below wr.heap.size wr (wr.drew.alloc (.cells #[.string ⟨n1.toArray⟩, .string ⟨n2.toArray⟩] 9)) := (Below.refl _ _).drew.alloc (Nat.le_refl _) _
        have HS1 := And.intro (cell_next c2 hb5) (And.intro (cell_next z0 hb5) (cell_next z1 hb5))
        have HR7 := Lib.hid (HQ.out.later hb5)
        clear hb5
        refine hK _ _ (fun _ => HS1) ?_
        clear hK K
        try simp only [Act.put, List.setIfInBounds_toArray, List.set_cons_zero, List.set_cons_succ]
        refine wpAnyL_one (j := 14) (by kernel_rfl) rfl (by rfl) (fun K hK => ?_)
        refine oper_append_w (some 46) rfl (.tmp 32) (.tmp 45) rfl rfl HR7.out rfl (wds_two wr.drew n1 n2 (by omega) (by omega)) (fun h => by cases h) (by omega) (by simp) ?_
        intro v6 w6 hr6
        have hb6 := hr6.2
        have HS2 := And.intro ((hb6.cell (p := ⟨w.heap.size, 2, none⟩) hsz).trans HBx.out.2.2.1) (And.intro (((HB1.out.trans (hb6.mono HB1.out.size)).cell (p := ⟨b, off + q * 2, none⟩) hbl).trans HZ.out.1) (((HB1.out.trans (hb6.mono HB1.out.size)).cell (p := ⟨b, off + q * 2 + 1, none⟩) hbl).trans HZ.out.2))
        have HR8 := Lib.hid hr6
        clear hr6 hb6
        refine hK _ _ (fun _ => HS2) ?_
        clear hK K
        try simp only [Act.put, List.setIfInBounds_toArray, List.set_cons_zero, List.set_cons_succ]
        refine wpAnyL_one (j := 15) (by kernel_rfl) rfl (by rfl) (fun K hK => ?_)
        go_simp
        refine hK _ _ (fun h => (h rfl).elim) ?_
        clear hK K
        try simp only [Act.put, List.setIfInBounds_toArray, List.set_cons_zero, List.set_cons_succ]
        refine wpAnyL_done (by kernel_rfl) ?_ _
        clear HS0 HS1 HS2 HR7
        go_wp2
        go_roundw
        case rel => exact ⟨q + 1, by omega, by go_num, by rw [HTk2.out]; exact HR8⟩
        case measure => simp [intOf]; omega
      · obtain rfl : q = fs.length := by omega
        rw [List.take_length] at HQ
        have q1 : ¬ (fs.length : Int) < (fs.length : Int) := by omega
        have hpl : (P ++ It.fieldsS fs).length ≤ 1000 := by rw [List.length_append, fieldsS_len]; omega
        have c3 := (HQ.out.2.cell (p := ⟨w.heap.size, 3, none⟩) hsz).trans HBx.out.2.2.2.1
        have HL2 := Lib.hid (HL.out.later (HB1.out.trans (HQ.out.2.mono HB1.out.size)))
        go_wp2_with (at_builtin; refine wpList_append_w rfl (.tmp 47) (.tmp 49) rfl rfl HQ.out rfl HL2.out HLn.out (by omega) (by omega) ?_)
        intro v6 w6 hr6
        replace hr6 : RowW w1 v6 (wordsI IT) w6 := by rw [← HPI.out]; first | exact hr6 | (rw [List.append_assoc]; exact hr6)
        obtain ⟨a7, c7, rfl, hwd, -⟩ := row_open hr6 (fun t ht => by have := HWe.out t ht; omega)
        have hwl := HWl.out.2
        have HWc := Lib.hid (HHW.out a7 c7 _ w6 hwd hwl HWe.out)
        have HB6 := Lib.hid (HB1.out.trans (hr6.2.mono HB1.out.size))
        have hel := encW_len hwl HWe.out
        clear hr6 hwd hwl
        go_wp2_with fail
        refine HWc.out.mono ?_
        rintro e w7 ⟨rfl, hb⟩
        have HB7 := Lib.hid (HB6.out.trans (hb.mono HB6.out.size))
        clear hb HWc
        obtain ⟨B, hB⟩ : ∃ B, encW (wordsI IT) = B := ⟨_, rfl⟩
        have HPu := Lib.hid (show putS IT = B ++ crc2 B by rw [HP.out, ← hB]; rfl)
        rw [hB] at hel ⊢
        clear hB
        go_wp2_with fail
        refine (HHC.out B w7 hel).mono ?_
        rintro e w8 ⟨rfl, rfl⟩
        have hcv := conv_two w7 (((Crc16.crc B : Nat) : Int) / 256 % 256) (((Crc16.crc B : Nat) : Int) % 256)
        have hsB := Lib.hid (str_two B)
        go_wp2
        go_ret
        refine ⟨?_, HB7.out.trans (((Below.refl _ w7).alloc (Nat.le_refl _) _).mono HB7.out.size)⟩
        rw [HPu.out]
        exact congrArg (fun t => Ending.returned (Value.string t)) hsB.out
end Dp
end Go.Proofs.YtbkhnnjjpelfcaaGreatDoor
namespace Go.Proofs.YtbkhnnjjpelfcaaGreatDoor
namespace Dp
open Go.RowKit Go.Shelf
attribute [local go_sem] Oper.semAt_some
set_option linter.unusedVariables false
set_option linter.unusedSimpArgs false

/-- what PutReply keeps. -/
def PutC : Prop := ∀ (x : Rp.R) (a : Option Addr) (c : Nat) (w : World), Rep (fun _ => True) w x (rv x.k x.s x.n a x.l.length c) → (Rp.mayB x = true → (Rp.enc x).length ≤ 900000) →
  Calls Tryz.prog 44 #[rv x.k x.s x.n a x.l.length c] w fun e W => e = .returned (.string ⟨(Rp.putB x).toArray⟩) ∧ Below w.heap.size w W

theorem headsL_words (lev : Nat) : ∀ ws : List Bs, Rp.headsL lev (ws.map fun s => Rp.R.mk 4 s 0 []) = ws.map fun s => (⟨4, s, 0, 0⟩, lev)
  | [] => by simp [Rp.headsL]
  | w :: ws => by rw [List.map_cons, Rp.headsL, headsL_words lev ws, List.map_cons]; simp [Rp.heads, Rp.headsL]
theorem words_mayA {ws : List Bs} (hl : ws.length ≤ 82) (hs : ∀ s ∈ ws, s.length ≤ 300) : Rp.mayB (wordsA ws) = true := by
  unfold Rp.mayB wordsA Rp.heads
  rw [headsL_words, List.all_cons, Bool.and_eq_true, List.all_map, List.all_eq_true]
  refine ⟨by simp [Rp.okB, Rp.fitsB]; omega, fun s hx => ?_⟩
  have := hs s hx
  simp [Rp.okB, Rp.fitsB]; omega

set_option maxRecDepth 100000 in
set_option maxHeartbeats 16000000 in
theorem words_ref (HP : PutC) : WordsC := by
  intro a cap ws w hW hl hs
  have HP := Lib.hid HP
  have HW := Lib.hid hW
  have hnI : (ws.length : Int) ≤ 82 := by omega
  have HS := Lib.hid hs
  clear hW hs
  go_enter Tryz.func25, Tryz.ntmps25
  go_wp2
  obtain ⟨w1, hw1⟩ : ∃ w1, w.alloc (.cells #[.int .i64 6, .string ⟨#[]⟩, .int .i64 0, .slice none 0 0] 45) = w1 := ⟨_, rfl⟩
  have hx1 : w1.heap[w.heap.size]? = some (.cells #[.int .i64 6, .string ⟨#[]⟩, .int .i64 0, .slice none 0 0] 45 (0, 0)) := by rw [← hw1]; exact World.alloc_heap_new w _
  have hb1 : Below w.heap.size w w1 := by rw [← hw1]; exact (Below.refl _ w).alloc (Nat.le_refl _) _
  have hz1 : w1.heap.size = w.heap.size + 1 := by rw [← hw1]; simp
  have HI : Hid (MInv w.heap.size w1 (ws.map fun s => Rp.R.mk 4 s 0 []) 0 w1) := Lib.hid ⟨none, 0, [], rfl, rfl, hx1, ⟨by simp [flat4], .inl ⟨rfl, rfl⟩⟩, by simp, Keeps.refl _ _⟩
  have HB1 := Lib.hid hb1
  rw [hw1]
  clear hw1 hx1 hb1
  go_loopw [4] (fun i wr => ∃ q : Nat, q ≤ ws.length ∧ i = .int .i64 q ∧ Hid (MInv w.heap.size w1 (ws.map fun s => Rp.R.mk 4 s 0 []) q wr)) (fun i _ => ws.length - (intOf i).toNat)
  case atStart => exact ⟨0, Nat.zero_le _, rfl, HI⟩
  case round =>
    obtain ⟨q, hq, rfl, HQ⟩ := hrel
    have q0 : (0 : Int) ≤ (q : Int) := by omega
    obtain ⟨a2, c2, xs, h1, h2, h3, h4, h5, h6⟩ := HQ.out
    by_cases hlt : q < ws.length
    · have q1 : (q : Int) < (ws.length : Int) := by omega
      obtain ⟨b, off, rfl, hbl, hcc⟩ := HW.out.get (by omega)
      have z0 := hcc q hlt
      have zr := (h6.cell (p := ⟨b, off + q, none⟩) (by show b < w1.heap.size; omega) (by show b ≠ w.heap.size; omega)).trans ((HB1.out.cell (p := ⟨b, off + q, none⟩) hbl).trans z0)
      have hu := HS.out (ws.getD q []) (by rw [It.getD_eq hlt]; exact List.getElem_mem hlt)
      have hlq : (ws.map fun s => Rp.R.mk 4 s 0 [])[q]'(by simpa using hlt) = Rp.R.mk 4 (ws.getD q []) 0 [] := by rw [It.getD_eq hlt]; simp
      obtain ⟨n1, hn1⟩ : ∃ n1, ws.getD q [] = n1 := ⟨_, rfl⟩
      rw [hn1] at zr hu hlq
      obtain ⟨p0, p1, p2, p3, f0, f1, f2, f3⟩ := cells_four' h3
      have hfx : flat4 xs = flat4 xs := rfl
      have hxl : (flat4 xs).length = q * 4 := by rw [flat4_len, h1]
      have H1 := Lib.hid h1
      have H2 := Lib.hid h2
      have H3 := Lib.hid h3
      have H4 := Lib.hid h4
      have H5 := Lib.hid h5
      have H6 := Lib.hid h6
      have HLQ := Lib.hid hlq
      obtain ⟨i24, hi24, hi24z, hi24s, hi24b⟩ := info_parts info24
      have HS0 : wr.drew.cell? ⟨w.heap.size, 3, none⟩ = some (.slice a2 q c2) ∧ wr.drew.cell? ⟨b, off + q, none⟩ = some (.string ⟨n1.toArray⟩) := ⟨(World.cell?_drew _ _).trans p3, (World.cell?_drew _ _).trans zr⟩
      have hbz : b < w.heap.size := hbl
      have hws := h6.size
      clear h1 h2 h3 h4 h5 h6 hcc hn1 hlq p0 p1 p2 z0 f0 f1 f2 hfx
      go_wp2
      refine wp_region_L (S := fun W => W.cell? ⟨w.heap.size, 3, none⟩ = some (.slice a2 q c2) ∧ W.cell? ⟨b, off + q, none⟩ = some (.string ⟨n1.toArray⟩)) (f := 10) (by kernel_rfl) ?_
      refine wpAnyL_take (i := 0) (some 12) (v := .pointer (some ⟨w.heap.size, 3, none⟩)) rfl rfl (by kernel_rfl) (by kernel_rfl) (by kernel_rfl) (by kernel_rfl) (fun _ _ _ h => h) (by rfl) (fun W hS => ?_) HS0 ?_
      · obtain ⟨m0, m1⟩ := hS
        go_simp
      try simp only [Act.put, List.setIfInBounds_toArray, List.set_cons_zero, List.set_cons_succ]
      refine wpAnyL_take (i := 1) (some 13) (v := .slice a2 q c2) rfl rfl (by kernel_rfl) (by kernel_rfl) (by kernel_rfl) (by kernel_rfl) (fun _ _ _ h => h) (by rfl) (fun W hS => ?_) HS0 ?_
      · obtain ⟨m0, m1⟩ := hS
        go_simp
      try simp only [Act.put, List.setIfInBounds_toArray, List.set_cons_zero, List.set_cons_succ]
      refine wpAnyL_take (i := 2) (some 14) (v := .slice (some ⟨b, off, none⟩) ws.length cap) rfl rfl (by kernel_rfl) (by kernel_rfl) (by kernel_rfl) (by kernel_rfl) (fun _ _ _ h => h) (by rfl) (fun W hS => ?_) HS0 ?_
      · obtain ⟨m0, m1⟩ := hS
        go_simp
      try simp only [Act.put, List.setIfInBounds_toArray, List.set_cons_zero, List.set_cons_succ]
      refine wpAnyL_take (i := 3) (some 15) (v := .int .i64 q) rfl rfl (by kernel_rfl) (by kernel_rfl) (by kernel_rfl) (by kernel_rfl) (fun _ _ _ h => h) (by rfl) (fun W hS => ?_) HS0 ?_
      · obtain ⟨m0, m1⟩ := hS
        go_simp
      try simp only [Act.put, List.setIfInBounds_toArray, List.set_cons_zero, List.set_cons_succ]
      refine wpAnyL_take (i := 4) (some 16) (v := .pointer (some ⟨b, off + q, none⟩)) rfl rfl (by kernel_rfl) (by kernel_rfl) (by kernel_rfl) (by kernel_rfl) (fun _ _ _ h => h) (by rfl) (fun W hS => ?_) HS0 ?_
      · obtain ⟨m0, m1⟩ := hS
        go_simp
      try simp only [Act.put, List.setIfInBounds_toArray, List.set_cons_zero, List.set_cons_succ]
      refine wpAnyL_take (i := 5) (some 17) (v := .string ⟨n1.toArray⟩) rfl rfl (by kernel_rfl) (by kernel_rfl) (by kernel_rfl) (by kernel_rfl) (fun _ _ _ h => h) (by rfl) (fun W hS => ?_) HS0 ?_
      · obtain ⟨m0, m1⟩ := hS
        go_simp
      try simp only [Act.put, List.setIfInBounds_toArray, List.set_cons_zero, List.set_cons_succ]
      refine wpAnyL_take (i := 6) (some 18) (v := .agg #[.int .i64 4, .string ⟨n1.toArray⟩, .int .i64 0, .slice none 0 0]) rfl rfl (by kernel_rfl) (by kernel_rfl) (by kernel_rfl) (by kernel_rfl) (fun _ _ _ h => h) (by rfl) (fun W hS => ?_) HS0 ?_
      · obtain ⟨m0, m1⟩ := hS
        go_simp
      try simp only [Act.put, List.setIfInBounds_toArray, List.set_cons_zero, List.set_cons_succ]
      refine wpAnyL_one (j := 7) (by kernel_rfl) rfl (by rfl) (fun K hK => ?_)
      refine oper_wp_val (v := .slice (some ⟨wr.heap.size, 0, none⟩) 1 1) (w' := wr.drew.alloc (.cells #[.int .i64 4, .string ⟨n1.toArray⟩, .int .i64 0, .slice none 0 0] 45)) (by go_simp) ?_
      have HO2 := Lib.hid (owns_kept (S := fun _ => True) H4.out ((Keeps.refl (fun _ => True) wr).drew) fun _ _ => trivial)
      have hbA : Below wr.drew.heap.size wr.drew (wr.drew.alloc (.cells #[.int .i64 4, .string ⟨n1.toArray⟩, .int .i64 0, .slice none 0 0] 45)) := (Below.refl _ _).alloc (Nat.le_refl _) _
      have HS3 := And.intro (cell_next HS0.1 hbA) (cell_next HS0.2 hbA)
      clear hbA
      refine hK _ _ (fun _ => HS3) ?_
      clear hK K
      try simp only [Act.put, List.setIfInBounds_toArray, List.set_cons_zero, List.set_cons_succ]
      refine wpAnyL_one (j := 8) (by kernel_rfl) rfl (by rfl) (fun K hK => ?_)
      refine wp_append_lies _ (.tmp 13) (.tmp 19) 43 rfl w1.heap.size 45 i24 _ 4 56 Tryz.underlying43 hi24 hi24z hi24s hi24b rfl (by decide) (.slice a2 q c2) q (flat4 xs) rfl (HO2.out.alloc _) ⟨wr.heap.size, 0, none⟩ 1 1 [.int .i64 4, .string ⟨n1.toArray⟩, .int .i64 0, .slice none 0 0] rfl rfl (four_news wr.drew _ _ _ _) (by simp [Value.oneCell']) (by decide) (by unfold maxLen; omega) (by omega) (by simp; omega) _ rfl ?_
      intro g cap' w4 hown hgrow hat hlt3
      have hfar : ∀ k, k < w1.heap.size → some k ≠ (Value.slice a2 q c2).ownBlock := fun k hk e => by have := (H4.out.lt _ e.symm).1; omega
      have HS4 := And.intro ((hgrow.cell_far ⟨w.heap.size, 3, none⟩ (World.block_lt_of_cell? _ _ HS3.1) (hfar w.heap.size (by omega))).trans HS3.1) ((hgrow.cell_far ⟨b, off + q, none⟩ (World.block_lt_of_cell? _ _ HS3.2) (hfar b (by omega))).trans HS3.2)
      have hp4 := (mk_kept (Below.refl _ wr.drew) hgrow).heap H3.out (hfar w.heap.size (by omega))
      obtain ⟨-, -, -, -, -, -, -, g3'⟩ := cells_four' hp4
      have HO3 := Lib.hid hown
      have HG3 := Lib.hid hgrow
      have HA3 := Lib.hid hat
      clear hown hgrow hat hp4 hfar
      refine hK _ _ (fun _ => HS4) ?_
      clear hK K
      try simp only [Act.put, List.setIfInBounds_toArray, List.set_cons_zero, List.set_cons_succ]
      refine wpAnyL_take (i := 9) (some 21) (v := .pointer (some ⟨w.heap.size, 3, none⟩)) rfl rfl (by kernel_rfl) (by kernel_rfl) (by kernel_rfl) (by kernel_rfl) (fun _ _ _ h => h) (by rfl) (fun W hS => ?_) HS4 ?_
      · obtain ⟨m0, m1⟩ := hS
        go_simp
      try simp only [Act.put, List.setIfInBounds_toArray, List.set_cons_zero, List.set_cons_succ]
      have g00 := HS4.1
      refine wpAnyL_one (j := 10) (by kernel_rfl) rfl (by rfl) (fun K hK => ?_)
      go_simp
      refine hK _ _ (fun h => (h rfl).elim) ?_
      clear hK K
      try simp only [Act.put, List.setIfInBounds_toArray, List.set_cons_zero, List.set_cons_succ]
      refine wpAnyL_done (by kernel_rfl) ?_ _
      go_wp2
      go_roundw
      case rel =>
        have hstep := MInv.step (Pb := w.heap.size) (l := ws.map fun s => Rp.R.mk 4 s 0 []) (x := ⟨4, ⟨n1.toArray⟩, 0, none, 0, 0, 0, .mk 4 n1 0 []⟩) (by omega) H1.out H2.out (by simpa using hlt) HLQ.out H3.out H4.out H5.out H6.out (Below.refl _ _) (rep_plain (by unfold Fit; simp; omega)) HO3.out HG3.out HA3.out
        exact ⟨q + 1, by omega, by go_num, Lib.hid hstep⟩
      case measure => simp [intOf]; omega
    · obtain rfl : q = ws.length := by omega
      have q1 : ¬ (ws.length : Int) < (ws.length : Int) := by omega
      rw [List.take_of_length_le (by simp)] at h2
      obtain ⟨a3, c3, hv, hrep⟩ := row_rep (xs := xs) (by rw [h1]; exact h4) (by omega) (fun x hx => (h5 x hx).mono fun k h _ => h.1)
      rw [h1, h2] at hrep
      rw [h1] at hv
      simp only [Value.slice.injEq, true_and] at hv
      obtain ⟨rfl, rfl⟩ := hv
      obtain ⟨p0, p1, p2, p3, f0, f1, f2, f3⟩ := cells_four' h3
      have hbr : Below w.heap.size w wr := HB1.out.trans (h6.below (by omega) fun k hk => by omega)
      have hmay := words_mayA hl HS.out
      have HPc := Lib.hid (HP.out (wordsA ws) a2 c2 wr (by simpa [rv, Rp.R.k, Rp.R.s, Rp.R.n, Rp.R.l] using hrep.mono fun _ _ _ => trivial) (fun _ => by rw [enc_words]; have := encW_len hl HS.out; omega))
      have HBr := Lib.hid hbr
      have HE := Lib.hid (show Rp.putB (wordsA ws) = encW ws by unfold Rp.putB; rw [if_pos hmay, enc_words])
      rw [HE.out] at HPc
      unfold rv at HPc
      simp only [Rp.R.k, Rp.R.s, Rp.R.n, Rp.R.l, List.length_map] at HPc
      clear h1 h2 h3 h4 h5 h6 hrep hbr hmay HE f0 f1 f2 f3
      go_wp2_with fail
      refine HPc.out.mono ?_
      rintro e w5 ⟨rfl, hb⟩
      have HB5 := Lib.hid (HBr.out.trans (hb.mono HBr.out.size))
      clear hb
      go_wp2
      go_ret
      exact ⟨rfl, HB5.out⟩
end Dp
end Go.Proofs.YtbkhnnjjpelfcaaGreatDoor
