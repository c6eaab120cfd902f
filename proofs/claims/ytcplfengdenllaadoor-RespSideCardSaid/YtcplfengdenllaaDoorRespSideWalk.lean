/- The walk of the law RespSide. -/
import Derived.Test.YtcplfengdenllaaDoorRpNest
import Derived.Test.YtcplfengdenllaaDoorRpSame
namespace Go.Proofs.YtcplfengdenllaaDoor
open Go.RowKit Go.Shelf
attribute [local go_sem] Oper.semAt_some
set_option linter.unusedVariables false
set_option linter.unusedSimpArgs false

/-- rows of bytes that came in. -/
def Bss (w : World) (a : Option Addr) (cap : Nat) (ls : List (List UInt8)) : Prop :=
  ls.length ≤ cap ∧ cap ≤ 9223372036854775807 ∧ (ls = [] ∨ ∃ b off, a = some ⟨b, off, none⟩ ∧ b < w.heap.size ∧ ∀ k (h : k < ls.length), ∃ ak ck, w.cell? ⟨b, off + k, none⟩ = some (.slice ak ls[k].length ck) ∧ Bt (fun _ => True) w ak ck ls[k])

/-- what is made of a row. -/
def sideR (s ns : List UInt8) : Rp.R := Rp.mkF ns.length ns s
/-- .. and its bytes, one behind the other. -/
def sideB (s : List UInt8) (ls : List (List UInt8)) : List UInt8 := ls.flatMap fun ns => Rp.enc (sideR s ns)

theorem sideR_may {s : List UInt8} (hs : s.length ≤ 100) (ns : List UInt8) : Rp.mayB (sideR s ns) = true := List.all_eq_true.2 fun p hp => ((Rp.mk_top hs ns.length ns).2 p hp).1
theorem sideR_len {s : List UInt8} (hs : s.length ≤ 100) (ns : List UInt8) : (Rp.enc (sideR s ns)).length ≤ 13000 :=
  Rp.enc_short (n := 65) (sideR_may hs ns) (fun p hp => let h := (Rp.mk_top hs ns.length ns).2 p hp; ⟨h.2.1, h.2.2.1⟩) (Rp.mk_top hs ns.length ns).1
theorem enc_pos (r : Rp.R) (h : Rp.mayB r = true) : 1 ≤ (Rp.enc r).length := by
  have hg := Rp.enc r
  cases r with
  | mk k s n l =>
    have hf : Rp.fitsB ⟨k, s, n, l.length⟩ = true := by
      unfold Rp.mayB Rp.heads at h
      rw [List.all_cons, Bool.and_eq_true] at h
      have := h.1
      unfold Rp.okB at this
      rw [Bool.and_eq_true] at this
      exact this.1
    unfold Rp.enc Rp.own
    simp only [List.length_append]
    have : Rp.crlf.length = 2 := rfl
    omega
theorem sideB_len {s : List UInt8} (hs : s.length ≤ 100) : ∀ ls : List (List UInt8), (sideB s ls).length ≤ 13000 * ls.length
  | [] => by simp [sideB]
  | ns :: ls => by
    have h1 := sideB_len hs ls
    have h2 := sideR_len hs ns
    unfold sideB at h1 ⊢
    rw [List.flatMap_cons, List.length_append, List.length_cons]
    omega
theorem sideB_snoc (s : List UInt8) (ls : List (List UInt8)) {m : Nat} (h : m < ls.length) : sideB s (ls.take (m + 1)) = sideB s (ls.take m) ++ Rp.enc (sideR s ls[m]) := by
  unfold sideB
  rw [List.take_succ_eq_append_getElem h, List.flatMap_append]
  simp
theorem sideB_drop (s : List UInt8) (ls : List (List UInt8)) {m : Nat} (h : m < ls.length) : (sideB s ls).drop (sideB s (ls.take m)).length = Rp.enc (sideR s ls[m]) ++ sideB s (ls.drop (m + 1)) := by
  have e : sideB s ls = sideB s (ls.take m) ++ (Rp.enc (sideR s ls[m]) ++ sideB s (ls.drop (m + 1))) := by
    conv => lhs; rw [← List.take_append_drop m ls]
    unfold sideB
    rw [List.flatMap_append, List.drop_eq_getElem_cons h, List.flatMap_cons]
  rw [e, List.drop_left]
theorem side_get {s : List UInt8} (hs : s.length ≤ 100) (ls : List (List UInt8)) {m : Nat} (h : m < ls.length) : getO (sideB s ls) ((sideB s (ls.take m)).length : Int) = .ok (sideR s ls[m]) (sideB s (ls.drop (m + 1))) ∧ (sideB s ls).length = (sideB s (ls.take (m + 1))).length + (sideB s (ls.drop (m + 1))).length := by
  have hd := sideB_drop s ls h
  have hl := congrArg List.length hd
  rw [List.length_drop, List.length_append] at hl
  have hs2 := congrArg List.length (sideB_snoc s ls h)
  rw [List.length_append] at hs2
  have hpos := enc_pos _ (sideR_may hs ls[m])
  refine ⟨?_, by omega⟩
  unfold getO
  rw [if_neg (by omega), show ((sideB s (ls.take m)).length : Int).toNat = (sideB s (ls.take m)).length by omega, hd]
  exact Rp.get_put (r := sideR s ls[m]) (sideR_may hs _) (fun p hp => ((Rp.mk_top hs ls[m].length ls[m]).2 p hp).2.1) _

theorem side_make (s : List UInt8) (hs : s.length ≤ 100) (ns : List UInt8) (a : Option Addr) (cap : Nat) (w : World) (hn : ns.length ≤ 1000) (hb : Bt (fun _ => True) w a cap ns) :
    Calls Tryd.prog 21 #[.slice a ns.length cap, .string ⟨s.toArray⟩] w (MkOut w (sideR s ns)) := make_any s (by omega) ns.length ns a cap w (Nat.le_refl _) hn hb

theorem sideS_next {w7 W1 e : World} {Pb b o : Nat} {x0 x1 x2 x3 y : Value} (H : Pb < w7.heap.size ∧ b < w7.heap.size)
    (h : W1.cell? ⟨Pb, 0, none⟩ = some x0 ∧ W1.cell? ⟨Pb, 1, none⟩ = some x1 ∧ W1.cell? ⟨Pb, 2, none⟩ = some x2 ∧ W1.cell? ⟨Pb, 3, none⟩ = some x3 ∧ W1.cell? ⟨b, o, none⟩ = some y ∧ Below w7.heap.size w7 W1) (hb : Below W1.heap.size W1 e) :
    e.cell? ⟨Pb, 0, none⟩ = some x0 ∧ e.cell? ⟨Pb, 1, none⟩ = some x1 ∧ e.cell? ⟨Pb, 2, none⟩ = some x2 ∧ e.cell? ⟨Pb, 3, none⟩ = some x3 ∧ e.cell? ⟨b, o, none⟩ = some y ∧ Below w7.heap.size w7 e := by
  obtain ⟨h1, h2⟩ := H
  obtain ⟨c1, c2, c3, c4, c5, hB⟩ := h
  have hs := hB.size
  have e1 : ∀ b o, b < w7.heap.size → e.cell? ⟨b, o, none⟩ = W1.cell? ⟨b, o, none⟩ := fun b o h => hb.cell (p := ⟨b, o, none⟩) (Nat.lt_of_lt_of_le h hs)
  exact ⟨(e1 _ _ h1).trans c1, (e1 _ _ h1).trans c2, (e1 _ _ h1).trans c3, (e1 _ _ h1).trans c4, (e1 _ _ h2).trans c5, hB.trans (hb.mono hs)⟩

theorem below_drewN' {B : Nat} {a w : World} (h : Below B a w) (n : Nat) : Below B a (w.drewN n) := ⟨h.os, h.tape, h.output, h.size, h.block⟩

set_option maxRecDepth 100000 in
set_option maxHeartbeats 8000000 in
theorem respSide_go (a : Option Addr) (cap : Nat) (ls : List (List UInt8)) (s : List UInt8) (w : World) (hlen : ls.length ≤ 9223372036854775807) (hsl : s.length ≤ 9223372036854775807) (hw : Bss w a cap ls) (henv : Env w) :
    Calls Tryd.prog 8 #[.slice a ls.length cap, .string ⟨s.toArray⟩] w fun e w' => e = .returned (.bool true) ∧ Below w.heap.size w w' := by
  have HW := Lib.hid hw
  have HENV := Lib.hid henv
  have hcc := hw.1
  have hcm := hw.2.1
  clear hw henv
  by_cases hbig : 12 < ls.length ∨ (¬ 12 < ls.length ∧ 60 < s.length)
  · rcases hbig with h | ⟨h, h'⟩
    · have hI : (12 : Int) < (ls.length : Int) := by omega
      go_enter Tryd.func8, Tryd.ntmps8
      go_wp2_with fail
      refine (awake_any w HENV.out).mono ?_
      rintro e w1 ⟨rfl, hb⟩
      go_wp2
      go_ret
      exact ⟨rfl, hb⟩
    · have hI : ¬ (12 : Int) < (ls.length : Int) := by omega
      have hI' : (60 : Int) < (s.length : Int) := by omega
      go_enter Tryd.func8, Tryd.ntmps8
      go_wp2_with fail
      refine (awake_any w HENV.out).mono ?_
      rintro e w1 ⟨rfl, hb⟩
      go_wp2
      go_ret
      exact ⟨rfl, hb⟩
  have h12 : ¬ 12 < ls.length := fun h => hbig (.inl h)
  have h60 : ¬ 60 < s.length := fun h => hbig (.inr ⟨h12, h⟩)
  have hI : ¬ (12 : Int) < (ls.length : Int) := by omega
  have hI' : ¬ (60 : Int) < (s.length : Int) := by omega
  have HS := Lib.hid (show s.length ≤ 100 by omega)
  clear hbig
  obtain ⟨i5, hi5, hi5z, hi5s, hi5b⟩ := info_parts info5
  go_enter Tryd.func8, Tryd.ntmps8
  go_upto_region 5 with (fail)
  go_loopw [5, 6] (fun v i wr => ∃ m : Nat, m ≤ ls.length ∧ i = .int .i64 (m : Int) ∧ Hid (Buf w.heap.size (sideB s (ls.take m)) v wr) ∧ Hid (Below w.heap.size w wr) ∧ Hid (∀ j (h : j < ls.length), j < m → ls[j].length ≤ 20)) (fun _ i _ => ls.length - (intOf i).toNat)
  case atStart => exact ⟨0, Nat.zero_le _, rfl, Lib.hid (World.ownsRow_nil _ _ _ _), Lib.hid (Below.refl _ _), Lib.hid fun j _ h => by omega⟩
  case round =>
    obtain ⟨m, hm, rfl, HBF, HB, HL⟩ := hrel
    by_cases hlt : m < ls.length
    · obtain ⟨b, off, rfl, hb, hc⟩ := HW.out.2.2.resolve_left (by rintro rfl; simp at hlt)
      obtain ⟨ak, ck, c1, hbt⟩ := hc m hlt
      have c1 := (HB.out.cell (p := ⟨b, off + m, none⟩) hb).trans c1
      have hltI : (m : Int) < (ls.length : Int) := by omega
      have ewn : IntKind.i64.wrap ((m : Int) + 1) = (m : Int) + 1 := IntWalk.i64_in _ (by omega)
      have hk1 := hbt.1
      have hk2 := hbt.2.1
      have HSN := Lib.hid (sideB_snoc s ls hlt)
      have HTL := Lib.hid (sideB_len HS.out (ls.take m))
      have HL2 : ls[m].length ≤ 20 → Hid (∀ j (h : j < ls.length), j < m + 1 → ls[j].length ≤ 20) := fun h20 => Lib.hid fun j h hj => by
        by_cases e : j = m
        · subst e; exact h20
        · exact HL.out j h (by omega)
      have HBT := Lib.hid hbt
      clear hc hbt
      generalize ls[m] = ns at *
      by_cases h20 : 20 < ns.length
      · have h20I : (20 : Int) < (ns.length : Int) := by omega
        go_wp2_with fail
        refine (awake_any wr (HENV.out.below HB.out HENV.out.size)).mono ?_
        rintro e w1 ⟨rfl, hb1⟩
        have HB1 := Lib.hid (HB.out.trans (hb1.mono HB.out.size))
        go_wp2
        go_ret
        exact ⟨rfl, HB1.out⟩
      · have h20I : ¬ (20 : Int) < (ns.length : Int) := by omega
        have HL3 := HL2 (by omega)
        have hbw : Bt (fun _ => True) wr ak ck ns := HBT.out.keeps (S := fun _ => True) (S' := fun _ => True) ⟨HB.out.os, HB.out.tape, HB.out.output, HB.out.size, fun k hk _ => HB.out.block k hk⟩ fun _ h => h
        have HMK := Lib.hid (side_make s HS.out ns ak ck wr (by omega) hbw)
        have HTOP := Lib.hid (Rp.mk_top HS.out ns.length ns)
        have HMY := Lib.hid (sideR_may HS.out ns)
        have HLE := Lib.hid (sideR_len HS.out ns)
        have HPO := Lib.hid (enc_pos _ (sideR_may HS.out ns))
        change Hid ((Rp.heads 0 (sideR s ns)).length ≤ 65 ∧ ∀ p ∈ Rp.heads 0 (sideR s ns), Rp.HP p) at HTOP
        generalize sideR s ns = R at *
        clear HL2 hbw
        go_wp2_with fail
        refine HMK.out.mono ?_
        rintro e w3 ⟨a3, c3, rfl, hrep, hb3⟩
        have hp := callsIn_wide.1 (put_any R a3 c3 w3 (by have := HTOP.out.1; omega) (fun p hp => (HTOP.out.2 p hp).2.2.2) (HENV.out.below (HB.out.trans (hb3.mono HB.out.size)) HENV.out.size) (hrep.mono fun k _ h => h))
        have HB3 := Lib.hid (HB.out.trans (hb3.mono HB.out.size))
        have HBF3 := Lib.hid (owns_kept (S := fun _ => True) HBF.out (Keeps.of_below hb3 fun _ h _ => h) fun _ _ => trivial)
        unfold Rp.putB at hp
        rw [if_pos HMY.out] at hp
        have HP := Lib.hid hp
        unfold rv at HP ⊢
        clear hp hrep hb3 HMK
        go_wp2_with fail
        refine HP.out.mono ?_
        rintro e w4 ⟨v4, rfl, hbuf4, hb4⟩
        have HB4 := Lib.hid (HB3.out.trans (hb4.mono HB3.out.size))
        have HBF4 := Lib.hid (owns_kept (S := fun _ => True) HBF3.out (Keeps.of_below hb4 fun _ h _ => h) fun _ _ => trivial)
        have HB4' := Lib.hid hbuf4
        clear hb4 HP
        rcases hbuf4.2 with ⟨rfl, h0⟩ | ⟨g4, cap4, cur4, rfl, hg4⟩
        · exfalso
          have := HPO.out
          omega
        have hnews : ∀ j u, (Lib.byteCells (Rp.enc R))[j]? = some u → w4.cell? ((⟨g4, 0, none⟩ : Addr).add j) = some u := hbuf4.cells (g := g4) rfl
        have hone : ∀ u ∈ Lib.byteCells (Rp.enc R), u.oneCell' = true := by
          intro u hu
          unfold Lib.byteCells at hu
          obtain ⟨b, _, rfl⟩ := List.mem_map.1 hu
          rfl
        have HNW := Lib.hid hnews
        have HON := Lib.hid hone
        clear hbuf4 hg4 hnews hone
        go_wp2_with (at_builtin; refine wpList_append_lies _ rfl (.tmp 43) (.tmp 50) 28 rfl w.heap.size 5 i5 (.int .u8 0) 1 1 Tryd.underlying28 hi5 hi5z hi5s hi5b rfl (by decide) _ (sideB s (ls.take m)).length (Lib.byteCells (sideB s (ls.take m))) rfl HBF4.out ⟨g4, 0, none⟩ (Rp.enc R).length cap4 (Lib.byteCells (Rp.enc R)) rfl (by simp [Lib.byteCells]) HNW.out HON.out HPO.out ?d1 ?d2 ?d3 _ rfl ?_)
        case d1 =>
          have h1 := HTL.out
          have h2 := HLE.out
          rw [List.length_take] at h1
          unfold maxLen
          have : 13000 * min m ls.length ≤ 13000 * 12 := Nat.mul_le_mul_left _ (by omega)
          omega
        case d2 =>
          have h1 := HTL.out
          have h2 := HLE.out
          rw [List.length_take] at h1
          have : 13000 * min m ls.length ≤ 13000 * 12 := Nat.mul_le_mul_left _ (by omega)
          omega
        case d3 => exact HB4.out.size
        intro g5 cap5 w5 hown5 hgrow5 hat5 hlt5
        have hbf5 : Buf w.heap.size (sideB s (ls.take (m + 1))) (.slice (some ⟨g5, 0, none⟩) ((sideB s (ls.take m)).length + (Rp.enc R).length) cap5) w5 := by
          unfold Buf
          rw [HSN.out, List.length_append]
          have e : Lib.byteCells (sideB s (ls.take m) ++ Rp.enc R) = Lib.byteCells (sideB s (ls.take m)) ++ Lib.byteCells (Rp.enc R) := by simp [Lib.byteCells]
          rw [e]
          exact hown5
        have hb5 : Below w.heap.size w w5 := HB4.out.trans ((Keeps.of_grown (S := fun k => k < w.heap.size) hgrow5 fun r e h => by have := (HBF4.out.lt r e).1; omega).below HB4.out.size fun k hk => hk)
        have HBF5 := Lib.hid hbf5
        have HB5 := Lib.hid hb5
        clear hown5 hgrow5 hat5 hlt5 hbf5 hb5 HNW HON HBF4 HB4' HB4
        go_wp2
        go_roundw
        case rel => exact ⟨m + 1, by omega, by go_num, HBF5, HB5, HL3⟩
        case measure => simp [intOf]; omega
    · obtain rfl : m = ls.length := by omega
      have hbf := HBF.out
      rw [List.take_length] at hbf
      have hBl : (sideB s ls).length ≤ 156000 := by
        have h1 := sideB_len HS.out ls
        have : 13000 * ls.length ≤ 13000 * 12 := Nat.mul_le_mul_left _ (by omega)
        omega
      obtain ⟨av, cv, rfl, hbt⟩ := hbf.bt
      have hle : ∀ q, q ≤ ls.length → (sideB s (ls.take q)).length ≤ 156000 := fun q hq => by
        have h1 := sideB_len HS.out (ls.take q)
        rw [List.length_take] at h1
        have : 13000 * min q ls.length ≤ 13000 * 12 := Nat.mul_le_mul_left _ (by omega)
        omega
      have HLE := Lib.hid hle
      have HBT := Lib.hid hbt
      have HSG := Lib.hid (fun (q : Nat) (h : q < ls.length) => side_get HS.out ls h)
      have HLT := Lib.hid (fun (q : Nat) (h : q < ls.length) => show (sideB s (ls.take q)).length < (sideB s (ls.take (q + 1))).length by
        rw [sideB_snoc s ls h, List.length_append]
        have := enc_pos _ (sideR_may HS.out ls[q])
        omega)
      have HEND := Lib.hid (show (sideB s (ls.take ls.length)).length = (sideB s ls).length by rw [List.take_length])
      have H0 : (sideB s (ls.take 0)).length = 0 := rfl
      clear hbf hbt hle HBF
      obtain ⟨A, hA⟩ : ∃ A : Nat → Nat, ∀ q, (sideB s (ls.take q)).length = A q := ⟨fun q => (sideB s (ls.take q)).length, fun _ => rfl⟩
      simp only [hA] at HLE HSG HLT HEND H0
      generalize sideB s ls = B at *
      clear hA
      go_upto_region 12 with (fail)
      obtain ⟨wb, rfl⟩ : ∃ wb : World, wb = wr := ⟨_, rfl⟩
      go_loopw [7, 8] (fun at_ i wr => ∃ q : Nat, q ≤ ls.length ∧ i = .int .i64 (q : Int) ∧ at_ = .int .i64 (A q : Int) ∧ Hid (Below wb.heap.size wb wr)) (fun _ i _ => ls.length - (intOf i).toNat)
      case atStart => exact ⟨0, Nat.zero_le _, rfl, by rw [H0]; rfl, Lib.hid (Below.refl _ _)⟩
      case round =>
        obtain ⟨q, hq, rfl, rfl, HK⟩ := hrel
        have hAq := HLE.out q hq
        have HBX := Lib.hid (HB.out.trans (HK.out.mono HB.out.size))
        by_cases hlt : q < ls.length
        · obtain ⟨b, off, rfl, hb, hc⟩ := HW.out.2.2.resolve_left (by rintro rfl; simp at hlt)
          obtain ⟨ak, ck, c1, hbn⟩ := hc q hlt
          have hns := HL.out q hlt hlt
          obtain ⟨hg, hgl⟩ := HSG.out q hlt
          have hA1 := HLT.out q hlt
          have hAq1 := HLE.out (q + 1) (by omega)
          have hltI : (q : Int) < (ls.length : Int) := by omega
          have k0 : (0 : Int) ≤ (q : Int) := by omega
          have kT : ((q : Int)).toNat = q := by omega
          have ewn : IntKind.i64.wrap ((q : Int) + 1) = (q : Int) + 1 := IntWalk.i64_in _ (by omega)
          have hk1 := hbn.1
          have hk2 := hbn.2.1
          have hgv := get_any B (A q : Int) av cv wr (by omega) (by omega) (by omega) ((HBT.out.later HK.out).keeps (S' := fun i => i < wr.heap.size) (Keeps.refl _ wr) fun i h => Nat.lt_of_lt_of_le h HK.out.size) (HENV.out.below HBX.out HENV.out.size)
          rw [hg] at hgv
          have hnx : ((B.length : Int) - ((sideB s (ls.drop (q + 1))).length : Int)) = (A (q + 1) : Int) := by omega
          have HGV := Lib.hid hgv
          have HC1 := Lib.hid c1
          have HBN := Lib.hid hbn
          clear hc hbn hg hgl hgv c1
          generalize ls[q] = ns at *
          have hnI : (ns.length : Int) ≤ 20 := by omega
          go_wp2_with fail
          refine HGV.out.mono ?_
          rintro e w6 ⟨hb6, k6, s6, n6, a6, l6, c6, rfl, hrep6⟩
          rw [hnx]
          have HB6 := Lib.hid (HBX.out.trans (hb6.mono HBX.out.size))
          have HK6 := Lib.hid (HK.out.trans (hb6.mono HK.out.size))
          have HR6 := Lib.hid hrep6
          clear hb6 hrep6 HGV hnx
          go_upto_region 15 with (fail)
          obtain ⟨w7, hw7⟩ : ∃ w7, w6.alloc (.cells #[.int .i64 k6, .string s6, .int .i64 n6, .slice a6 l6 c6] 24) = w7 := ⟨_, rfl⟩
          have hx7 := World.alloc_heap_new w6 (.cells #[.int .i64 k6, .string s6, .int .i64 n6, .slice a6 l6 c6] 24)
          have hb7 : Below w6.heap.size w6 w7 := by rw [← hw7]; exact (Below.refl _ w6).alloc (Nat.le_refl _) _
          have hs7 : w7.heap.size = w6.heap.size + 1 := by rw [← hw7]; simp
          rw [hw7] at hx7 ⊢
          have HB7 := Lib.hid (HB6.out.trans (hb7.mono HB6.out.size))
          have HK7 := Lib.hid (HK6.out.trans (hb7.mono HK6.out.size))
          have hr7 := HR6.out.later hb7
          obtain ⟨a6', c6', hv, -, -⟩ := hr7.parts
          unfold rv at hv
          simp only [Value.agg.injEq, Array.mk.injEq, List.cons.injEq, and_true, Value.int.injEq, true_and, Value.string.injEq, Value.slice.injEq] at hv
          obtain ⟨rfl, rfl, rfl, rfl, rfl, rfl⟩ := hv
          have c7 := (HB7.out.cell (p := ⟨b, off + q, none⟩) hb).trans HC1.out
          have hbt7 : ∀ W', Below w7.heap.size w7 W' → Bt (fun _ => True) W' ak ck ns := fun W' h => HBN.out.keeps (S := fun _ => True) (S' := fun _ => True) ⟨(HB7.out.trans (h.mono HB7.out.size)).os, (HB7.out.trans (h.mono HB7.out.size)).tape, (HB7.out.trans (h.mono HB7.out.size)).output, (HB7.out.trans (h.mono HB7.out.size)).size, fun k hk _ => (HB7.out.trans (h.mono HB7.out.size)).block k hk⟩ fun _ h => h
          have hmk := fun W' (h : Below w7.heap.size w7 W') => side_make s HS.out ns ak ck W' (by omega) (hbt7 W' h)
          generalize sideR s ns = R at *
          have hsm := fun W' (h : Below w7.heap.size w7 W') am cm (hr : Rep (fun _ => True) W' R (rv R.k R.s R.n am R.l.length cm)) => refSame_any _ R R a6 am c6 cm W' (Nat.le_refl _) ((Rep.later hr7 h).mono fun _ _ _ => trivial) hr
          simp only [Rp.eqR_refl] at hsm
          unfold MkOut at hmk
          have HM7 := Lib.hid hmk
          have HS7 := Lib.hid hsm
          have hx7' := hx7
          obtain ⟨b0, b1, b2, b3⟩ := cells_four hx7'
          have HN := Lib.hid (show w6.heap.size < w7.heap.size ∧ b < w7.heap.size from ⟨by omega, Nat.lt_of_lt_of_le hb HB7.out.size⟩)
          have HSS : w7.drew.cell? ⟨w6.heap.size, 0, none⟩ = some (.int .i64 R.k) ∧ w7.drew.cell? ⟨w6.heap.size, 1, none⟩ = some (.string ⟨R.s.toArray⟩) ∧ w7.drew.cell? ⟨w6.heap.size, 2, none⟩ = some (.int .i64 R.n) ∧ w7.drew.cell? ⟨w6.heap.size, 3, none⟩ = some (.slice a6 R.l.length c6) ∧ w7.drew.cell? ⟨b, off + q, none⟩ = some (.slice ak ns.length ck) ∧ Below w7.heap.size w7 w7.drew :=
            ⟨(World.cell?_drew _ _).trans b0, (World.cell?_drew _ _).trans b1, (World.cell?_drew _ _).trans b2, (World.cell?_drew _ _).trans b3, (World.cell?_drew _ _).trans c7, (Below.refl _ _).drew⟩
          have hnle : ¬ (A (q + 1) : Int) ≤ (A q : Int) := by omega
          have hnle2 : (A q : Int) < (A (q + 1) : Int) := by omega
          have hnle3 : A q < A (q + 1) := hA1
          have hnle4 : decide ((A (q + 1) : Int) ≤ (A q : Int)) = false := decide_eq_false hnle
          have hnle5 : decide (A (q + 1) ≤ A q) = false := decide_eq_false (by omega)
          unfold rv at HM7 HS7
          clear hr7 hx7 hx7' hmk hsm hbt7 c7 b0 b1 b2 b3 HR6 hw7 hb7 HBN HC1
          go_region_held3 (fun W' => W'.cell? ⟨w6.heap.size, 0, none⟩ = some (.int .i64 R.k) ∧ W'.cell? ⟨w6.heap.size, 1, none⟩ = some (.string ⟨R.s.toArray⟩) ∧ W'.cell? ⟨w6.heap.size, 2, none⟩ = some (.int .i64 R.n) ∧ W'.cell? ⟨w6.heap.size, 3, none⟩ = some (.slice a6 R.l.length c6) ∧ W'.cell? ⟨b, off + q, none⟩ = some (.slice ak ns.length ck) ∧ Below w7.heap.size w7 W')
            (with_reducible exact HSS)
            (first
              | (go_at_call 20; (with_reducible refine (num_law _ _).mono ?_); rintro e w8 ⟨rfl, rfl⟩)
              | (go_at_call 21; (with_reducible refine (HM7.out _ HSS.2.2.2.2.2).mono ?_); rintro e w8 ⟨am, cm, rfl, hrm, hb⟩; have HRM := Lib.hid hrm; replace HSS := sideS_next HN.out HSS hb; clear hb hrm)
              | (go_at_call 17; (with_reducible refine (HS7.out _ HSS.2.2.2.2.2 _ _ (HRM.out.mono fun _ _ _ => trivial)).mono ?_); rintro e w9 ⟨rfl, hb⟩; replace HSS := sideS_next HN.out HSS hb; clear hb))
          go_wp2
          go_roundw
          case rel => exact ⟨q + 1, by omega, by go_num, rfl, Lib.hid (HK7.out.trans (HSS.2.2.2.2.2.mono HK7.out.size))⟩
          case measure => simp [intOf]; omega
        · obtain rfl : q = ls.length := by omega
          have hend : A ls.length = B.length := HEND.out
          rw [hend]
          have hbb : ∀ W, Below wb.heap.size wb W → Bt (fun i => i < W.heap.size) W av cv B := fun W h => (HBT.out.later h).keeps (S' := fun i => i < W.heap.size) (Keeps.refl _ W) fun i h' => Nat.lt_of_lt_of_le h' h.size
          have hee : ∀ W, Below wb.heap.size wb W → Env W := fun W h => HENV.out.below (HB.out.trans (h.mono HB.out.size)) HENV.out.size
          have hg1 := fun W (h : Below wb.heap.size wb W) => get_any B (B.length : Int) av cv W (by omega) (by omega) (by omega) (hbb W h) (hee W h)
          have hg2 := fun W (h : Below wb.heap.size wb W) => get_any B ((B.length : Int) + 1) av cv W (by omega) (by omega) (by omega) (hbb W h) (hee W h)
          have hg3 := fun W (h : Below wb.heap.size wb W) => get_any B (-1) av cv W (by omega) (by omega) (by omega) (hbb W h) (hee W h)
          have o1 : getO B (B.length : Int) = .err 6 := by
            unfold getO
            rw [if_neg (by omega), Int.toNat_natCast, List.drop_length]
            exact (Rp.stars_err 8 0).1 (by omega)
          have o2 : getO B ((B.length : Int) + 1) = .err 1 := by unfold getO; rw [if_pos (by omega)]
          have o3 : getO B (-1) = .err 1 := by unfold getO; rw [if_pos (by omega)]
          simp only [o1] at hg1
          simp only [o2] at hg2
          simp only [o3] at hg3
          have HG1 := Lib.hid hg1
          have HG2 := Lib.hid hg2
          have HG3 := Lib.hid hg3
          have HEE := Lib.hid hee
          have e1 : IntKind.i64.wrap ((B.length : Int) + 1) = (B.length : Int) + 1 := IntWalk.i64_in _ (by omega)
          clear hbb hee hg1 hg2 hg3 o1 o2 o3 hend HSG HLT HLE HEND
          go_wp2_with fail
          refine (HG1.out _ HK.out).mono ?_
          rintro e w6 ⟨hb6, -, rfl⟩
          have HK6 := Lib.hid (HK.out.trans (hb6.mono HK.out.size))
          clear hb6
          go_upto_region 19 with (fail)
          have HK7 := Lib.hid (HK6.out.alloc HK6.out.size (.cells #[.int .i64 0, .string ⟨#[]⟩, .int .i64 0, .slice none 0 0] 24))
          generalize w6.alloc (.cells #[.int .i64 0, .string ⟨#[]⟩, .int .i64 0, .slice none 0 0] 24) = w7 at *
          go_wp2_with fail
          refine (HG2.out _ HK7.out).mono ?_
          rintro e w8 ⟨hb8, -, rfl⟩
          have HK8 := Lib.hid (HK7.out.trans (hb8.mono HK7.out.size))
          clear hb8
          go_upto_region 20 with (fail)
          have HK9 := Lib.hid (HK8.out.alloc HK8.out.size (.cells #[.int .i64 0, .string ⟨#[]⟩, .int .i64 0, .slice none 0 0] 24))
          generalize w8.alloc (.cells #[.int .i64 0, .string ⟨#[]⟩, .int .i64 0, .slice none 0 0] 24) = w9 at *
          go_wp2_with fail
          refine (HG3.out _ HK9.out).mono ?_
          rintro e w10 ⟨hb10, -, rfl⟩
          have HK10 := Lib.hid (HK9.out.trans (hb10.mono HK9.out.size))
          clear hb10
          go_upto_region 21 with (fail)
          have HK11 := Lib.hid (HK10.out.alloc HK10.out.size (.cells #[.int .i64 0, .string ⟨#[]⟩, .int .i64 0, .slice none 0 0] 24))
          generalize w10.alloc (.cells #[.int .i64 0, .string ⟨#[]⟩, .int .i64 0, .slice none 0 0] 24) = w11 at *
          go_wp2_with fail
          refine (num_law _ _).mono ?_
          rintro e w12 ⟨rfl, rfl⟩
          go_wp2_with fail
          refine (num_law _ _).mono ?_
          rintro e w12 ⟨rfl, rfl⟩
          go_wp2_with fail
          refine (num_law _ _).mono ?_
          rintro e w12 ⟨rfl, rfl⟩
          go_wp2_with fail
          refine (awake_any _ (HEE.out _ HK11.out)).mono ?_
          rintro e w12 ⟨rfl, hb12⟩
          have HK12 := Lib.hid (HK11.out.trans (hb12.mono HK11.out.size))
          go_wp2
          go_ret
          exact ⟨rfl, HB.out.trans (HK12.out.mono HB.out.size)⟩
end Go.Proofs.YtcplfengdenllaaDoor
