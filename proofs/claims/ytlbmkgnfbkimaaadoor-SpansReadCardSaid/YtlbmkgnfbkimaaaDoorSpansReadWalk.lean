/- The walk of SpansRead. -/
import Derived.Test.YtlbmkgnfbkimaaaDoorBadPlain
import Derived.Test.YtlbmkgnfbkimaaaDoorSpansTextsWalk
import Derived.IntWalk
namespace Go.Proofs.YtlbmkgnfbkimaaaDoor
open Go.RowKit Go.Shelf
attribute [local go_sem] Oper.semAt_some

theorem str_two (a b : Int) (h : ¬ a < b) : (⟨(Dig.dec a).toArray⟩ : ByteArray) = ⟨(oneT (a, b)).toArray⟩ := by
  unfold oneT; rw [if_neg h, List.append_nil]
theorem str_three (a b : Int) (h : a < b) : (⟨(Dig.dec a).toArray⟩ : ByteArray) ++ ⟨#[45]⟩ ++ ⟨(Dig.dec b).toArray⟩ = ⟨(oneT (a, b)).toArray⟩ := by
  unfold oneT; rw [if_pos h, str_app1, str_app]; simp

/-- the twelve as the call lays them. -/
def badCells (sl tl : List UInt8) (a b c : Int) : Array Value :=
  #[Value.string (⟨tl.toArray⟩ ++ ⟨#[44]⟩), Value.string (⟨#[44]⟩ ++ ⟨tl.toArray⟩), Value.string (⟨tl.toArray⟩ ++ ⟨#[32]⟩), Value.string (⟨sl.toArray⟩ ++ ⟨#[44]⟩ ++ ⟨(Dig.dec (b + 1)).toArray⟩),
    Value.string (⟨(Dig.dec c).toArray⟩ ++ ⟨#[44]⟩ ++ ⟨sl.toArray⟩), Value.string (⟨sl.toArray⟩ ++ ⟨#[44]⟩ ++ ⟨sl.toArray⟩), Value.string (⟨#[48]⟩ ++ ⟨tl.toArray⟩), Value.string (⟨tl.toArray⟩ ++ ⟨#[45]⟩),
    Value.string (⟨sl.toArray⟩ ++ ⟨#[44, 49, 54, 51, 56, 52]⟩), Value.string (⟨sl.toArray⟩ ++ ⟨#[45, 45, 53]⟩), Value.string (⟨(Dig.dec a).toArray⟩ ++ ⟨#[45]⟩ ++ ⟨(Dig.dec a).toArray⟩), Value.string ⟨#[120]⟩]

theorem badCells_eq (a b c d : Int) : badCells (oneT (a, b)) (oneT (a, b) ++ 44 :: oneT (c, d)) a b c = ((Tx.bads a b c d).map fun l => Value.string ⟨l.toArray⟩).toArray := by
  unfold badCells Tx.bads
  simp only [str_app]
  rfl

theorem badCells_at {w : World} {cs : List (List UInt8)} {t : TypeId} {k : Nat} (hk : k < cs.length) :
    (w.alloc (.cells (cs.map fun l => Value.string ⟨l.toArray⟩).toArray t)).cell? ⟨w.heap.size, k, none⟩ = some (.string ⟨(cs.getD k []).toArray⟩) := by
  unfold World.cell?
  rw [World.alloc_heap_new]
  simp [hk, List.getD]

open Classical in
set_option maxRecDepth 100000 in
set_option maxHeartbeats 4000000 in
theorem spansRead_walk (f g h m y : Int) (w : World) (hf : 0 ≤ f ∧ f ≤ 65535) (hg : 0 ≤ g ∧ g ≤ 65535) (hh : 0 ≤ h ∧ h ≤ 65535) (hm : 0 ≤ m ∧ m ≤ 65535) (hy : 0 ≤ y ∧ y ≤ 255) (ht : Tab w) :
    Calls Tryd.prog 9 #[.int .u16 f, .int .u16 g, .int .u16 h, .int .u16 m, .int .u8 y] w fun e w' => e = .returned (.bool true) ∧ Below w.heap.size w w' := by
  have HT := Lib.hid ht
  have wf : IntKind.i64.wrap f = f := IntWalk.i64_in _ (by omega)
  have wg : IntKind.i64.wrap g = g := IntWalk.i64_in _ (by omega)
  have wh : IntKind.i64.wrap h = h := IntWalk.i64_in _ (by omega)
  have wm : IntKind.i64.wrap m = m := IntWalk.i64_in _ (by omega)
  have wy : IntKind.i64.wrap y = y := IntWalk.i64_in _ (by omega)
  obtain ⟨f0, f1⟩ := hf
  obtain ⟨g0, g1⟩ := hg
  obtain ⟨h0, h1⟩ := hh
  obtain ⟨m0, m1⟩ := hm
  obtain ⟨y0, y1⟩ := hy
  clear ht
  go_enter Tryd.func9, Tryd.ntmps9
  go_wp2_with fail
  have ha0 : 0 ≤ f % 8000 := by omega
  have ha1 : f % 8000 < 8000 := by omega
  have hb0 : f % 8000 ≤ f % 8000 + g % 100 := by omega
  have hb1 : f % 8000 + g % 100 < 8100 := by omega
  have hc0 : f % 8000 + g % 100 + 1 < f % 8000 + g % 100 + 2 + h % 100 := by omega
  have hc1 : f % 8000 + g % 100 + 2 + h % 100 < 8300 := by omega
  have hd0 : f % 8000 + g % 100 + 2 + h % 100 ≤ f % 8000 + g % 100 + 2 + h % 100 + m % 100 := by omega
  have hd1 : f % 8000 + g % 100 + 2 + h % 100 + m % 100 < 8400 := by omega
  generalize f % 8000 + g % 100 + 2 + h % 100 + m % 100 = d at *
  generalize f % 8000 + g % 100 + 2 + h % 100 = c at *
  generalize f % 8000 + g % 100 = b at *
  generalize f % 8000 = a at *
  refine (digits_any a _ (by omega) (by omega)).mono ?_
  rintro e w1 ⟨rfl, hb⟩
  have HB1 := Lib.hid hb
  have lena := dec_len (n := a) (by omega) (by omega)
  have lenb := dec_len (n := b) (by omega) (by omega)
  have lenc := dec_len (n := c) (by omega) (by omega)
  have lend := dec_len (n := d) (by omega) (by omega)
  clear hb
  obtain ⟨sl, hsl⟩ : ∃ sl, sl = oneT (a, b) := ⟨_, rfl⟩
  obtain ⟨tl, htl⟩ : ∃ tl, tl = oneT (a, b) ++ 44 :: oneT (c, d) := ⟨_, rfl⟩
  have lens : sl.length ≤ 11 := by rw [hsl]; unfold oneT; rw [List.length_append]; split <;> simp <;> omega
  have lent : tl.length ≤ 23 := by rw [htl]; unfold oneT; rw [List.length_append]; split <;> split <;> simp <;> omega
  have HSL := Lib.hid hsl
  have HTL := Lib.hid htl
  have HIN := Lib.hid (Tx.two_in (p := (a, b)) (q := (c, d)) ⟨ha0, hb0, show b < 16384 by omega⟩ ⟨show 0 ≤ c by omega, hd0, show d < 16384 by omega⟩ hc0)
  have HBAD := Lib.hid (Tx.bads_none ha0 hb0 hc0 hd0 (by omega))
  have HSZ := Lib.hid (Tx.bads_size ha0 hb0 hc0 hd0 (by omega))
  have ewb : IntKind.i64.wrap (b + 1) = b + 1 := IntWalk.i64_in _ (by omega)
  by_cases hab : a < b
  case' pos =>
    have S : (⟨(Dig.dec a).toArray⟩ : ByteArray) ++ ⟨#[45]⟩ ++ ⟨(Dig.dec b).toArray⟩ = ⟨sl.toArray⟩ := by rw [hsl]; exact str_three a b hab
    clear hsl htl
    go_wp2_with fail
    refine (digits_any b _ (by omega) (by omega)).mono ?_
    rintro e w2 ⟨rfl, hb⟩
    have HB2 := Lib.hid (HB1.out.trans (hb.mono HB1.out.size))
    clear hb HB1
    go_wp2_with fail
    clear S
  case' neg =>
    have S : (⟨(Dig.dec a).toArray⟩ : ByteArray) = ⟨sl.toArray⟩ := by rw [hsl]; exact str_two a b hab
    clear hsl htl
    rw [S]
    clear S
    obtain ⟨w2, hw2⟩ : ∃ w2, w1 = w2 := ⟨_, rfl⟩
    rw [hw2] at HB1 ⊢
    clear hw2
    have HB2 := HB1
    clear HB1
    go_wp2_with fail
  all_goals
    refine (digits_any c _ (by omega) (by omega)).mono ?_
    rintro e w3 ⟨rfl, hb⟩
    have HB3 := Lib.hid (HB2.out.trans (hb.mono HB2.out.size))
    clear hb HB2
    by_cases hcd : c < d
    case' pos =>
      have S : (⟨sl.toArray⟩ : ByteArray) ++ ⟨#[44]⟩ ++ ⟨(Dig.dec c).toArray⟩ ++ ⟨#[45]⟩ ++ ⟨(Dig.dec d).toArray⟩ = ⟨tl.toArray⟩ := by
        rw [str_app1, str_app, str_app1, str_app, HSL.out, HTL.out]
        simp [oneT, hcd]
      go_wp2_with fail
      refine (digits_any d _ (by omega) (by omega)).mono ?_
      rintro e w4 ⟨rfl, hb⟩
      have HB4 := Lib.hid (HB3.out.trans (hb.mono HB3.out.size))
      clear hb HB3
      go_wp2_with fail
      clear S
    case' neg =>
      have S : (⟨sl.toArray⟩ : ByteArray) ++ ⟨#[44]⟩ ++ ⟨(Dig.dec c).toArray⟩ = ⟨tl.toArray⟩ := by
        rw [str_app1, str_app, HSL.out, HTL.out]
        simp [oneT, hcd]
      obtain ⟨w4, hw4⟩ : ∃ w4, w3 = w4 := ⟨_, rfl⟩
      rw [hw4] at HB3 ⊢
      clear hw4
      have HB4 := HB3
      clear HB3
      go_wp2_with fail
      clear S
    all_goals
      have hrd : readD tl = some [(a, b), (c, d)] := by rw [HTL.out]; exact HIN.out
      refine (callsIn_wide.1 (read_any ⟨tl.toArray⟩ w4 (show tl.length ≤ 100000 by omega))).mono ?_
      rintro e w5 h5
      have h5' : ReadOut w4 (readD tl) e w5 := h5
      rw [hrd] at h5'
      obtain ⟨a1, c1, rfl, hs1, hb⟩ := read_spans h5' (by
        intro l h
        have h' : readD tl = some l := by rw [hrd]; exact h
        have := Tx.readD_back h'
        simp only [Option.some.injEq] at h
        subst h
        exact ⟨by simp, this.1⟩)
      have HB5 := Lib.hid (HB4.out.trans (hb.mono HB4.out.size))
      obtain ⟨_, _, _, hx⟩ := hs1
      rcases hx with hx | ⟨b1, o1, rfl, hlt, hcell⟩
      case' inl => simp at hx
      have q1 := hcell 0 (by simp)
      have q2 := hcell 1 (by simp)
      simp only [Option.getD_some, List.getD_cons_zero, List.getD_cons_succ, Nat.zero_mul, Nat.add_zero, Nat.one_mul] at q1 q2
      obtain ⟨q10, q11⟩ := q1
      obtain ⟨q20, q21⟩ := q2
      have n1 := fun w => (span_neq a b a b w).trans (by rw [show (!(a == a && b == b)) = false by simp])
      have n2 := fun w => (span_neq c d c d w).trans (by rw [show (!(c == c && d == d)) = false by simp])
      simp only [Option.getD_some, Option.isSome_some, List.length_cons, List.length_nil]
      clear h5 h5' hb hcell HB4
      go_wp2_with fail
      clear q10 q11 q20 q21 n1 n2
      refine (digits_any (b + 1) _ (by omega) (by omega)).mono ?_
      rintro e w6 ⟨rfl, hb⟩
      have HB6 := Lib.hid (HB5.out.trans (hb.mono HB5.out.size))
      clear hb HB5
      have lenb1 := dec_len (n := b + 1) (by omega) (by omega)
      go_wp2_with fail
      refine (digits_any c _ (by omega) (by omega)).mono ?_
      rintro e w7 ⟨rfl, hb⟩
      have HB7 := Lib.hid (HB6.out.trans (hb.mono HB6.out.size))
      clear hb HB6
      go_wp2_with fail
      refine (digits_any a _ (by omega) (by omega)).mono ?_
      rintro e w8 ⟨rfl, hb⟩
      have HB8 := Lib.hid (HB7.out.trans (hb.mono HB7.out.size))
      clear hb HB7
      go_wp2_with fail
      refine (digits_any a _ (by omega) (by omega)).mono ?_
      rintro e w9 ⟨rfl, hb⟩
      have HB9 := Lib.hid (HB8.out.trans (hb.mono HB8.out.size))
      clear hb HB8
      go_upto_region 15 with (fail)
      obtain ⟨wz, hwz⟩ : ∃ wz, w9.alloc (.cells (badCells sl tl a b c) 9) = wz := ⟨_, rfl⟩
      change Code.wp _ _ _ _ (w9.alloc (.cells (badCells sl tl a b c) 9))
      rw [hwz]
      obtain ⟨k, hk⟩ : ∃ k : Nat, y % 12 = (k : Int) := ⟨(y % 12).toNat, by omega⟩
      have hk12 : k < 12 := by omega
      have hcz : wz.cell? ⟨w9.heap.size, k, none⟩ = some (.string ⟨((Tx.bads a b c d).getD k []).toArray⟩) := by
        rw [← hwz, HSL.out, HTL.out, badCells_eq]
        exact badCells_at (by simp [Tx.bads]; exact hk12)
      have HBz : Hid (Below w.heap.size w wz) := Lib.hid (by rw [← hwz]; exact HB9.out.alloc HB9.out.size _)
      have hxm : (Tx.bads a b c d).getD k [] ∈ Tx.bads a b c d := by
        have : k < (Tx.bads a b c d).length := by simp [Tx.bads]; exact hk12
        simp [List.getD, this]
      have hxn := HBAD.out _ hxm
      have hxs := HSZ.out _ hxm
      generalize (Tx.bads a b c d).getD k [] = x at hcz hxn hxs
      have HX := Lib.hid hxn
      have e0 : (y % 12).toNat = k := by omega
      have e1 : (0 : Int) ≤ (k : Int) := by omega
      have e2 : (k : Int) < 12 := by omega
      have hcz' : wz.cell? ⟨w9.heap.size, 0 + k, none⟩ = some (.string ⟨x.toArray⟩) := by rw [Nat.zero_add]; exact hcz
      clear hwz HB9 hxm hxn HBAD HSZ
      go_wp2_with fail
      refine (callsIn_wide.1 (read_any ⟨x.toArray⟩ wz (show x.length ≤ 100000 by omega))).mono ?_
      rintro e w10 h10
      have h10' : ReadOut wz (readD x) e w10 := h10
      rw [HX.out] at h10'
      obtain ⟨a2, c2, rfl, _, hb⟩ := read_spans h10' (by intro l h; simp at h)
      have HB10 := Lib.hid (HBz.out.trans (hb.mono HBz.out.size))
      clear h10 h10' hb HBz hcz hcz'
      simp only [Option.getD_none, Option.isSome_none, List.length_nil]
      go_wp2_with fail
      refine (awake_any _ (tab_later HT.out HB10.out)).mono ?_
      rintro e w11 ⟨rfl, hb⟩
      have HB11 := Lib.hid (HB10.out.trans (hb.mono HB10.out.size))
      clear hb HB10
      go_wp2
      go_ret
      exact ⟨rfl, HB11.out⟩
end Go.Proofs.YtlbmkgnfbkimaaaDoor
