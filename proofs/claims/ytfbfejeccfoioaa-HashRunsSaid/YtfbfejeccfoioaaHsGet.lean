/- The contract of hash.Get; the statements' awake. -/
import Derived.Test.YtfbfejeccfoioaaHsCalls
import Derived.Test.YtfbfejeccfoioaaHsRef
import Derived.Test.YtfbfejeccfoioaaHsSame
namespace Go.Proofs.Ytfbfejeccfoioaa
open Go.RowKit Go.Shelf
attribute [local go_sem] Oper.semAt_some
set_option linter.unusedVariables false
set_option linter.unusedSimpArgs false

theorem loadVarS (w : World) (p : Addr) (v : Value) (h : w.cell? p = some v) : (loadVar 9 p).run Try.prog w = .ok v w := by
  simp [loadVar, go_sem, h]

/-- Get's own variables: the name, the two results. -/
def GBox (w : World) (n v : List UInt8) (b : Bool) (W : World) : Prop :=
  Boxed W w.heap.size 9 (.string ⟨n.toArray⟩) ∧ Boxed W (w.heap.size + 1) 9 (.string ⟨v.toArray⟩) ∧ Boxed W (w.heap.size + 1 + 1) 4 (.bool b) ∧ Below w.heap.size w W
theorem GBox.keep {w W W' : World} {n v : List UInt8} {b : Bool} (h : GBox w n v b W) {S : Nat → Prop} (hk : Keeps S W W') (hS : ∀ k, k < w.heap.size + 3 → S k) : GBox w n v b W' := by
  obtain ⟨h1, h2, h3, h4⟩ := h
  exact ⟨hk.heap h1 (hS _ (by omega)), hk.heap h2 (hS _ (by omega)), hk.heap h3 (hS _ (by omega)), h4.trans (hk.below h4.size fun k hk' => hS k (by omega))⟩
theorem GBox.store {w W : World} {n v : List UInt8} {b : Bool} (h : GBox w n v b W) (v' : List UInt8) (b' : Bool) : GBox w n v' b' ((W.setCell ⟨w.heap.size + 1, 0, none⟩ (.string ⟨v'.toArray⟩)).setCell ⟨w.heap.size + 1 + 1, 0, none⟩ (.bool b')) := by
  obtain ⟨h1, h2, h3, h4⟩ := h
  have hk1 : Keeps (fun k => k ≠ w.heap.size + 1) W (W.setCell ⟨w.heap.size + 1, 0, none⟩ (.string ⟨v'.toArray⟩)) := (Keeps.refl _ _).setCell (.inr (by simp)) _
  have hk2 : Keeps (fun k => k ≠ w.heap.size + 1 + 1) (W.setCell ⟨w.heap.size + 1, 0, none⟩ (.string ⟨v'.toArray⟩)) ((W.setCell ⟨w.heap.size + 1, 0, none⟩ (.string ⟨v'.toArray⟩)).setCell ⟨w.heap.size + 1 + 1, 0, none⟩ (.bool b')) := (Keeps.refl _ _).setCell (.inr (by simp)) _
  exact ⟨hk2.heap (hk1.heap h1 (by omega)) (by omega), hk2.heap (h2.set _) (by omega), Boxed.set _ (hk1.heap h3 (by omega)), (h4.trans (hk1.below h4.size fun k hk => by omega)).trans (hk2.below (Nat.le_trans h4.size hk1.size) fun k hk => by omega)⟩

set_option maxRecDepth 100000 in
set_option maxHeartbeats 4000000 in
theorem get_any (a : Option Addr) (cap : Nat) (fs : List Fd) (n : List UInt8) (w : World) (hF : Fds w a cap fs) (hn : fs.length ≤ 1000) (hok : ∀ x ∈ fs, OkF x) :
    CallsIn Fence.wide 0 Try.prog 8 #[.slice a fs.length cap, .string ⟨n.toArray⟩] w fun e W' => e = .returned (.tuple #[.string ⟨(Hs.getP fs n).1.toArray⟩, .bool (Hs.getP fs n).2]) ∧ Below w.heap.size w W' := by
  obtain ⟨w3, hw3⟩ : ∃ w3, ((w.alloc (.cells #[.string ⟨n.toArray⟩] 9)).alloc (.cells #[.string ⟨#[]⟩] 9)).alloc (.cells #[.bool false] 4) = w3 := ⟨_, rfl⟩
  have hs3 : w3.heap.size = w.heap.size + 1 + 1 + 1 := by rw [← hw3]; simp
  have hg3 : GBox w n [] false w3 := by
    rw [← hw3]
    have k1 := Boxed.new w 9 (.string ⟨n.toArray⟩)
    have k2 := Boxed.new (w.alloc (.cells #[.string ⟨n.toArray⟩] 9)) 9 (.string ⟨#[]⟩)
    have k3 := Boxed.new ((w.alloc (.cells #[.string ⟨n.toArray⟩] 9)).alloc (.cells #[.string ⟨#[]⟩] 9)) 4 (.bool false)
    rw [World.size_alloc] at k2
    rw [World.size_alloc, World.size_alloc] at k3
    exact ⟨(k1.alloc _).alloc _, k2.alloc _, k3, (((Below.refl _ w).alloc (Nat.le_refl _) _).alloc (by simp) _).alloc (by simp; omega) _⟩
  obtain ⟨w4, hw4⟩ : ∃ w4, w3.alloc (.cells #[.slice a fs.length cap] 22) = w4 := ⟨_, rfl⟩
  have hs4 : w4.heap.size = w.heap.size + 4 := by rw [← hw4]; simp; omega
  have hk34 : ∀ S, Keeps S w3 w4 := fun S => by rw [← hw4]; exact (Keeps.refl _ _).alloc _
  have hg4 : GBox w n [] false w4 := hg3.keep (hk34 fun _ => True) fun _ _ => trivial
  have hbx : Boxed w4 (w.heap.size + 1 + 1 + 1) 22 (.slice a fs.length cap) := by rw [← hw4, ← hs3]; exact Boxed.new w3 _ _
  have hfi := fields_any a fs.length cap w3
  rw [hw4, hs3] at hfi
  have hD : ∀ b off, a = some ⟨b, off, none⟩ → 0 < fs.length → b < w4.heap.size ∧ b ≠ w.heap.size + 1 ∧ b ≠ w.heap.size + 1 + 1 := fun b off ha h0 => by
    obtain ⟨b', off', ha', hb', -⟩ := hF.get h0
    rw [ha] at ha'
    injection ha' with ha'
    injection ha' with ha'
    omega
  have hseq := fields_seq (w.heap.size + 1 + 1 + 1) a cap fs w4 hbx (hF.later hg4.2.2.2) (by omega) hok (fun k => k < w4.heap.size ∧ k ≠ w.heap.size + 1 ∧ k ≠ w.heap.size + 1 + 1) (fun _ => False) hD
  have HW3 := Lib.hid hw3
  have HFI := Lib.hid hfi
  have HSQ := Lib.hid hseq
  have HG4 := Lib.hid hg4
  clear hw3 hw4 hfi hseq hg3 hg4 hbx hD hk34 hs3
  refine callsIn_of_wp_marks Try.func8 rfl trivial ?_ rfl
  simp only [Try.ntmps8, List.size_toArray, List.length_cons, List.length_nil, Nat.reduceAdd, Nat.reduceSub, Array.replicate_succ, Array.replicate_zero, List.push_toArray, List.append_toArray, List.nil_append, List.cons_append]
  gi_wp2_with (rw [HW3.out]; refine ⟨trivial, rfl, ?_⟩; refine HFI.out.mono ?_; rintro e w5 ⟨rfl, hw5⟩; have HW5 := Lib.hid hw5; clear hw5)
  obtain rfl : w4 = w5 := HW5.out.symm
  clear HW5
  refine wpIn_rangeB (gf := 26) (lb := #[.pointer (some ⟨w.heap.size + 1 + 1 + 1, 0, none⟩)]) rfl eg_fields HSQ.out (Below.refl _ _) (fun k h => h.1) (fun k h => h.elim) (fun _ => rfl)
    (fun _ pre W => Hs.get pre n = none ∧ GBox w n [] false W) (fun c _ pre W => c = .ret ∧ ∃ v, Hs.get pre n = some v ∧ GBox w n v true W) ?hI ?hIx (fun h => by cases h) ⟨rfl, HG4.out⟩
    (fun _ x a' _ => a' = { tmps := #[.slice a fs.length cap, .string ⟨n.toArray⟩, undef, .pointer (some ⟨w.heap.size, 0, none⟩), .pointer (some ⟨w.heap.size + 1, 0, none⟩), .pointer (some ⟨w.heap.size + 1 + 1, 0, none⟩), .string ⟨x.1.toArray⟩, .string ⟨x.2.toArray⟩, .slice a fs.length cap, .func (.func 26) #[] #[.pointer (some ⟨w.heap.size + 1 + 1 + 1, 0, none⟩)], .string ⟨x.1.toArray⟩, .string ⟨x.2.toArray⟩, undef, undef, undef, undef, undef], defers := [] })
    (fun O x a' A C h hk => h) ?assign ?body ?done ?stop
  case hI =>
    rintro O s A C ⟨h1, h2⟩ hk
    exact ⟨h1, h2.keep hk fun k hk' => ⟨id, .inl (by omega)⟩⟩
  case hIx =>
    rintro c O s A C ⟨h0, v, h1, h2⟩ hk
    exact ⟨h0, v, h1, h2.keep hk fun k hk' => ⟨id, .inl (by omega)⟩⟩
  case assign =>
    intro O pre x A K hO hA hi hK
    have HK := Lib.hid hK
    have HI := Lib.hid hi
    clear hK hi
    unfold encF
    gi_wp2
    exact HK.out _ _ (Keeps.refl _ _) HI.out rfl
  case body =>
    rintro O pre x a' A hO hA ⟨r, hr⟩ ⟨hp, hg⟩ rfl hlen hT
    obtain ⟨x1, x2⟩ := x
    have hgn := Hs.get_snoc pre (x1, x2) n
    rw [hp] at hgn
    have HG := Lib.hid hg
    have HGN := Lib.hid (show Hs.get (pre ++ [(x1, x2)]) n = if x1 = n then some x2 else none from hgn)
    obtain ⟨h1, h2, h3, h4⟩ := hg
    have b1 := h1.cell
    have HO := Lib.hid hO
    clear hp hgn hO h1 h2 h3
    by_cases he : x1 = n
    · have hne : (x1 == n) = true := by simp [he]
      have HR := Lib.hid (show Hs.get (pre ++ [(x1, x2)]) n = some x2 by rw [HGN.out, if_pos he])
      have HC := Lib.hid (fun W => in_round (l := w4.heap.size + 1) (clone_any x2 W (by have := hT.2; simp at this; omega)))
      clear he h4
      gi_wp2_with (refine ⟨trivial, rfl, ?_⟩; refine (HC.out _).mono ?_; rintro e w6 ⟨rfl, hb⟩; have HB6 := Lib.hid hb; have hg6 := HG.out.keep (Keeps.of_below (S := fun _ => True) hb fun _ h _ => h) fun _ _ => trivial; have HG6 := Lib.hid hg6; have f1 := hg6.2.1.frozen; have c1 := hg6.2.1.cell; have f2 := hg6.2.2.1.frozen; have c2 := hg6.2.2.1.cell; clear hb hg6 b1)
      have hst := HG6.out.store x2 true
      have hsz : A.heap.size ≤ w6.heap.size := HB6.out.size
      have nS : ∀ k, k = w.heap.size + 1 ∨ k = w.heap.size + 1 + 1 → ¬ RoundS (fun k => k < w4.heap.size ∧ k ≠ w.heap.size + 1 ∧ k ≠ w.heap.size + 1 + 1) (fun _ => False) w4.heap.size O k := by
        rintro k hk (h | h | h)
        · omega
        · exact h
        · omega
      have hkk : Keeps (RoundS (fun k => k < w4.heap.size ∧ k ≠ w.heap.size + 1 ∧ k ≠ w.heap.size + 1 + 1) (fun _ => False) w4.heap.size O) A ((w6.setCell ⟨w.heap.size + 1, 0, none⟩ (.string ⟨x2.toArray⟩)).setCell ⟨w.heap.size + 1 + 1, 0, none⟩ (.bool true)) :=
        ((Keeps.of_below HB6.out fun _ h _ => h).setCell (p := ⟨w.heap.size + 1, 0, none⟩) (.inr (nS _ (.inl rfl))) _).setCell (p := ⟨w.heap.size + 1 + 1, 0, none⟩) (.inr (nS _ (.inr rfl))) _
      exact ⟨hkk, O, fun j hj => ⟨Nat.lt_of_lt_of_le (HO.out j hj).2 hkk.size, .inl hj⟩, rfl, x2, HR.out, hst⟩
    · have hne : (x1 == n) = false := by simp [he]
      have HR := Lib.hid (show Hs.get (pre ++ [(x1, x2)]) n = none by rw [HGN.out, if_neg he])
      clear he
      gi_wp2
      exact ⟨Keeps.refl _ _, O, Grows.same (fun k hk => (HO.out k hk).2), HR.out, HG.out⟩
  case done =>
    rintro O D xs A hD hDs hO - rfl ⟨hp, hg⟩ hDd
    have f1 := hg.2.1.frozen
    have c1 := hg.2.1.cell
    have f2 := hg.2.2.1.frozen
    have c2 := hg.2.2.1.cell
    have HR := Lib.hid (show Hs.getP xs n = ([], false) by unfold Hs.getP; rw [hp])
    have hst : GBox w n [] false ((A.setCell ⟨w.heap.size + 1, 0, none⟩ (.string ⟨#[]⟩)).setCell ⟨w.heap.size + 1 + 1, 0, none⟩ (.bool false)) := hg.store [] false
    have hk : Keeps (fun k => w.heap.size + 4 ≤ k) A ((A.setCell ⟨w.heap.size + 1, 0, none⟩ (.string ⟨#[]⟩)).setCell ⟨w.heap.size + 1 + 1, 0, none⟩ (.bool false)) := ((Keeps.refl _ _).setCell (.inr (by first | (simp; done) | (simp; omega))) _).setCell (.inr (by first | (simp; done) | (simp; omega))) _
    have hd2 := hk.heap hDd (by omega)
    have HST := Lib.hid hst
    clear hst hk hp hg
    gi_wp2
    refine ⟨by simp, .inl ⟨_, _, rfl, run_takeDeferred hd2, ?_⟩⟩
    have hk3 : Keeps (fun k => k ≠ D) ((A.setCell ⟨w.heap.size + 1, 0, none⟩ (.string ⟨#[]⟩)).setCell ⟨w.heap.size + 1 + 1, 0, none⟩ (.bool false)) (((A.setCell ⟨w.heap.size + 1, 0, none⟩ (.string ⟨#[]⟩)).setCell ⟨w.heap.size + 1 + 1, 0, none⟩ (.bool false)).putObj D (.deferred none)) := (Keeps.refl _ _).putObj (fun h => h rfl) _
    have hge := HST.out.keep hk3 fun k hk => by omega
    refine ⟨_, results_cell2 rfl rfl (loadVarS _ _ _ hge.2.1.cell) rfl (loadVarB _ _ _ hge.2.2.1.cell), by rw [HR.out], hge.2.2.2⟩
  case stop =>
    rintro O D c pre A hD hDs hO - hSp ⟨rfl, v, hp, hg⟩ hDd
    have HR := Lib.hid (show Hs.getP fs n = (v, true) by unfold Hs.getP; rw [Hs.get_prefix hSp hp])
    have HG := Lib.hid hg
    clear hp hg
    gi_wp2
    refine ⟨by simp, .inl ⟨_, _, rfl, run_takeDeferred hDd, ?_⟩⟩
    have hk3 : Keeps (fun k => k ≠ D) A (A.putObj D (.deferred none)) := (Keeps.refl _ A).putObj (fun h => h rfl) _
    have hge := HG.out.keep hk3 fun k hk => by omega
    refine ⟨_, results_cell2 rfl rfl (loadVarS _ _ _ hge.2.1.cell) rfl (loadVarB _ _ _ hge.2.2.1.cell), by rw [HR.out], hge.2.2.2⟩

/-- of a row of the call's own: fields. -/
theorem RowF.fds {w W : World} {u : Value} {xs : List Fd} (h : RowF w u xs W) (hok : ∀ x ∈ xs, OkF x) : ∃ a cap, u = .slice a xs.length cap ∧ Fds W a cap xs := by
  obtain ⟨a, cap, hv, hf, -⟩ := fds_of_row h.1 fun p hp => by have := hok p hp; unfold OkF at this; omega
  exact ⟨a, cap, hv, hf⟩
theorem ok_set {fs : List Fd} {n v : List UInt8} (h : ∀ x ∈ fs, OkF x) (hnv : OkF (n, v)) : ∀ x ∈ Hs.set fs n v, OkF x := fun x hx => by
  rcases Hs.set_mem hx with rfl | hx
  · exact hnv
  · exact h x hx

set_option maxRecDepth 100000 in
set_option maxHeartbeats 4000000 in
theorem awake_any (w : World) : Calls Try.prog 7 #[] w fun e W => e = .returned (.bool true) ∧ Below w.heap.size w W := by
  have h1 := callsIn_wide.1 (set_any none 0 [] [97] [49] w (fds_nil w) (by decide) (by simp) ⟨by decide, by decide⟩)
  have h2 := fun W => callsIn_wide.1 (names_any none 0 [] W (fds_nil W) (by decide) (by simp))
  have H1 := Lib.hid h1
  have H2 := Lib.hid h2
  have HE := Lib.hid (show Hs.set [] [97] [49] = [([97], [49])] from rfl)
  have hq : ∀ W, (binOp .eql 42 (.agg #[.string ⟨#[97]⟩, .string ⟨#[49]⟩]) (.agg #[.string ⟨#[97]⟩, .string ⟨#[49]⟩])).run Try.prog W = .ok (.bool true) W := fun W => by
    have u9 := Try.underlying9
    have a9 := Try.isAgg9
    have z9 := Try.sizeOf9
    have hS : Try.prog.underlying 42 = some (.struct (Try.prog.fieldsOf 42)) := by kernel_rfl
    have hp : Try.prog.stoodInHeld 42 = false := by kernel_rfl
    rw [run_eql_struct, show (10000 : Nat) = 9999 + 1 from rfl, run_equalIn_agg W 9999 42 _ _ hS hp]
    simp only [Program.fieldsOf, Try.underlying42]
    go_simp
  clear h1 h2
  go_enter Try.func7, Try.ntmps7
  go_wp2_with fail
  refine H1.out.mono ?_
  rintro e w1 ⟨u, rfl, hr⟩
  rw [HE.out] at hr
  obtain ⟨a1, cap1, rfl, hf1⟩ := hr.fds (by intro x hx; simp at hx; subst hx; exact ⟨by decide, by decide⟩)
  have HB1 := Lib.hid hr.2
  have HF1 := Lib.hid hf1
  clear hr hf1
  go_wp2_with fail
  refine (H2.out w1).mono ?_
  rintro e w2 ⟨u, rfl, hr⟩
  obtain ⟨a2, cap2, rfl, -⟩ := hr.words (by simp)
  have HB2 := Lib.hid hr.2
  obtain ⟨b, off, rfl, hb, hc⟩ := (HF1.out.later hr.2).get (by simp)
  obtain ⟨c0, c1⟩ := hc 0 (by simp)
  simp only [Nat.zero_mul, Nat.add_zero, List.getD_cons_zero] at c0 c1
  clear hr hc
  simp only [List.length_cons, List.length_nil, List.map_nil]
  go_wp2_with fail
  go_ret
  exact ⟨rfl, HB1.out.trans (HB2.out.mono HB1.out.size)⟩
end Go.Proofs.Ytfbfejeccfoioaa
