/- The walk of the law SpaceAll. -/
import Derived.Test.YtkmdpmkjcfccnaaSpcLaw
import Derived.Test.YtkmdpmkjcfccnaaSpcAll
import Derived.Test.YtkmdpmkjcfccnaaDbGreat
namespace Go.Proofs.Ytkmdpmkjcfccnaa
open Go.RowKit Go.Shelf
attribute [local go_sem] Oper.semAt_some
set_option linter.unusedVariables false
set_option linter.unusedSimpArgs false

theorem notGreat_sm {s : List UInt8} {fs : List (List UInt8 × List UInt8)} {ws : List (List UInt8)} (h : It.greatB s fs ws = false) : s.length ≤ 1000000 ∧ fs.length ≤ 1000000 ∧ ws.length ≤ 1000000 ∧ (∀ p ∈ fs, p.1.length ≤ 1000000 ∧ p.2.length ≤ 1000000) ∧ ∀ t ∈ ws, t.length ≤ 1000000 := by
  unfold It.greatB at h
  simp only [Bool.or_eq_false_iff, decide_eq_false_iff_not] at h
  obtain ⟨⟨h1, h2⟩, ⟨h3, h4⟩, h5⟩ := h
  rw [List.take_of_length_le (by omega), List.any_eq_false] at h1 h2
  refine ⟨by omega, by omega, by omega, fun p hp => ?_, fun t ht => ?_⟩
  · have := h1 p hp
    simp only [It.bigF, Bool.or_eq_true, decide_eq_true_eq, not_or] at this
    omega
  · have := h2 t ht
    simp only [It.bigW, decide_eq_true_eq] at this
    omega
theorem notGreatP {ps : List Lp} (h : greatPs ps = false) : ps.length ≤ 50 ∧ ∀ p ∈ ps, p.p.Sm := by
  unfold greatPs at h
  rw [Bool.or_eq_false_iff] at h
  have hl : ps.length ≤ 50 := by have := of_decide_eq_false h.2; omega
  refine ⟨hl, fun p hp => ?_⟩
  have h1 := h.1
  rw [List.take_of_length_le (by omega), List.any_eq_false] at h1
  have h2 := h1 p hp
  simp only [greatP, Bool.or_eq_true, decide_eq_true_eq, not_or, Bool.not_eq_true] at h2
  exact ⟨by have := h2.1; show p.key.length ≤ 1000000; omega, notGreat_sm h2.2⟩
theorem notGreatE {ps : List Le} (h : greatEs ps = false) : ps.length ≤ 50 ∧ ∀ p ∈ ps, p.e.Sm := by
  unfold greatEs at h
  rw [Bool.or_eq_false_iff] at h
  have hl : ps.length ≤ 50 := by have := of_decide_eq_false h.2; omega
  refine ⟨hl, fun p hp => ?_⟩
  have h1 := h.1
  rw [List.take_of_length_le (by omega), List.any_eq_false] at h1
  have h2 := h1 p hp
  simp only [greatE, Bool.or_eq_true, decide_eq_true_eq, not_or, Bool.not_eq_true] at h2
  exact ⟨by have := h2.1; show p.key.length ≤ 1000000; omega, notGreat_sm h2.2⟩
theorem sameES_self (l : List Db.E) : Db.sameES l l = true := by
  unfold Db.sameES
  rw [decide_eq_true rfl, Bool.true_and, List.all_eq_true]
  intro i _
  unfold Db.sameEAt
  rw [decide_eq_true rfl, decide_eq_true rfl, It.same_self]
  rfl
theorem setE_all (ps : List Lp) : (ps.map setE).map Le.e = Db.all (ps.map Lp.p) := by
  unfold Db.all
  rw [List.map_map, List.map_map]
  rfl

set_option maxRecDepth 100000 in
set_option maxHeartbeats 8000000 in
theorem spAll_a (a : Option Addr) (c : Nat) (ps : List Lp) (b : Option Addr) (d : Nat) (qs : List Lp) (e : Option Addr) (f : Nat) (es : List Le) (key : List UInt8) (now sl : Int) (w : World) (hP : Prs w a c ps) (hQ : Prs w b d qs) (hE : Efs w e f es) (na : a = none → c = 0) (hk : key.length ≤ 9223372036854775807) (g1 : greatPs ps = true) :
    Calls Try.prog 3 #[.slice a ps.length c, .slice b qs.length d, .slice e es.length f, .string ⟨key.toArray⟩, .int .i64 now, .int .i64 sl] w fun r w' => r = .returned (.bool true) ∧ Below w.heap.size w w' := by
  have HAW := Lib.hid (fun W => awake_any W)
  have CG1 := Lib.hid (fun W (h : Below w.heap.size w W) => by
    have h2 := dbGreat_any a c ps W (hP.later h)
    rw [g1] at h2
    exact h2)
  have HB := Lib.hid (Below.refl w.heap.size w)
  clear hP hQ hE
  go_enter Try.func3, Try.ntmps3
  go_wp2_with fail
  refine (CG1.out _ HB.out).mono ?_
  rintro e w1 ⟨rfl, hb⟩
  have HK1 := Lib.hid hb
  clear hb
  replace HB := Lib.hid (HB.out.trans (HK1.out.mono HB.out.size))
  go_wp2_with fail
  refine (HAW.out _).mono ?_
  rintro e wz ⟨rfl, hb⟩
  have HBZ := Lib.hid (HB.out.trans (hb.mono HB.out.size))
  clear hb
  go_wp2_with fail
  go_ret
  exact ⟨rfl, HBZ.out⟩

set_option maxRecDepth 100000 in
set_option maxHeartbeats 8000000 in
theorem spAll_b (a : Option Addr) (c : Nat) (ps : List Lp) (b : Option Addr) (d : Nat) (qs : List Lp) (e : Option Addr) (f : Nat) (es : List Le) (key : List UInt8) (now sl : Int) (w : World) (hP : Prs w a c ps) (hQ : Prs w b d qs) (hE : Efs w e f es) (na : a = none → c = 0) (hk : key.length ≤ 9223372036854775807) (g1 : greatPs ps = false) (g2 : greatPs qs = true) :
    Calls Try.prog 3 #[.slice a ps.length c, .slice b qs.length d, .slice e es.length f, .string ⟨key.toArray⟩, .int .i64 now, .int .i64 sl] w fun r w' => r = .returned (.bool true) ∧ Below w.heap.size w w' := by
  have HAW := Lib.hid (fun W => awake_any W)
  have CG1 := Lib.hid (fun W (h : Below w.heap.size w W) => by
    have h2 := dbGreat_any a c ps W (hP.later h)
    rw [g1] at h2
    exact h2)
  have CG2 := Lib.hid (fun W (h : Below w.heap.size w W) => by
    have h2 := dbGreat_any b d qs W (hQ.later h)
    rw [g2] at h2
    exact h2)
  have HB := Lib.hid (Below.refl w.heap.size w)
  clear hP hQ hE
  go_enter Try.func3, Try.ntmps3
  go_wp2_with fail
  refine (CG1.out _ HB.out).mono ?_
  rintro e w1 ⟨rfl, hb⟩
  have HK1 := Lib.hid hb
  clear hb
  replace HB := Lib.hid (HB.out.trans (HK1.out.mono HB.out.size))
  go_wp2_with fail
  refine (CG2.out _ HB.out).mono ?_
  rintro e w2 ⟨rfl, hb⟩
  have HK2 := Lib.hid hb
  clear hb
  replace HB := Lib.hid (HB.out.trans (HK2.out.mono HB.out.size))
  go_wp2_with fail
  refine (HAW.out _).mono ?_
  rintro e wz ⟨rfl, hb⟩
  have HBZ := Lib.hid (HB.out.trans (hb.mono HB.out.size))
  clear hb
  go_wp2_with fail
  go_ret
  exact ⟨rfl, HBZ.out⟩

set_option maxRecDepth 100000 in
set_option maxHeartbeats 8000000 in
theorem spAll_c (a : Option Addr) (c : Nat) (ps : List Lp) (b : Option Addr) (d : Nat) (qs : List Lp) (e : Option Addr) (f : Nat) (es : List Le) (key : List UInt8) (now sl : Int) (w : World) (hP : Prs w a c ps) (hQ : Prs w b d qs) (hE : Efs w e f es) (na : a = none → c = 0) (hk : key.length ≤ 9223372036854775807) (g1 : greatPs ps = false) (g2 : greatPs qs = false) (g3 : greatEs es = true) :
    Calls Try.prog 3 #[.slice a ps.length c, .slice b qs.length d, .slice e es.length f, .string ⟨key.toArray⟩, .int .i64 now, .int .i64 sl] w fun r w' => r = .returned (.bool true) ∧ Below w.heap.size w w' := by
  have HAW := Lib.hid (fun W => awake_any W)
  have CG1 := Lib.hid (fun W (h : Below w.heap.size w W) => by
    have h2 := dbGreat_any a c ps W (hP.later h)
    rw [g1] at h2
    exact h2)
  have CG2 := Lib.hid (fun W (h : Below w.heap.size w W) => by
    have h2 := dbGreat_any b d qs W (hQ.later h)
    rw [g2] at h2
    exact h2)
  have CG3 := Lib.hid (fun W (h : Below w.heap.size w W) => by
    have h2 := dbHeavy_any e f es W (hE.later h)
    rw [g3] at h2
    exact h2)
  have HB := Lib.hid (Below.refl w.heap.size w)
  clear hP hQ hE
  go_enter Try.func3, Try.ntmps3
  go_wp2_with fail
  refine (CG1.out _ HB.out).mono ?_
  rintro e w1 ⟨rfl, hb⟩
  have HK1 := Lib.hid hb
  clear hb
  replace HB := Lib.hid (HB.out.trans (HK1.out.mono HB.out.size))
  go_wp2_with fail
  refine (CG2.out _ HB.out).mono ?_
  rintro e w2 ⟨rfl, hb⟩
  have HK2 := Lib.hid hb
  clear hb
  replace HB := Lib.hid (HB.out.trans (HK2.out.mono HB.out.size))
  go_wp2_with fail
  refine (CG3.out _ HB.out).mono ?_
  rintro e w3 ⟨rfl, hb⟩
  have HK3 := Lib.hid hb
  clear hb
  replace HB := Lib.hid (HB.out.trans (HK3.out.mono HB.out.size))
  go_wp2_with fail
  refine (HAW.out _).mono ?_
  rintro e wz ⟨rfl, hb⟩
  have HBZ := Lib.hid (HB.out.trans (hb.mono HB.out.size))
  clear hb
  go_wp2_with fail
  go_ret
  exact ⟨rfl, HBZ.out⟩

set_option maxRecDepth 100000 in
set_option maxHeartbeats 8000000 in
theorem spAll_d (a : Option Addr) (c : Nat) (ps : List Lp) (b : Option Addr) (d : Nat) (qs : List Lp) (e : Option Addr) (f : Nat) (es : List Le) (key : List UInt8) (now sl : Int) (w : World) (hP : Prs w a c ps) (hQ : Prs w b d qs) (hE : Efs w e f es) (na : a = none → c = 0) (hk : key.length ≤ 9223372036854775807) (g1 : greatPs ps = false) (g2 : greatPs qs = false) (g3 : greatEs es = false) (k1 : (200 : Int) < (key.length : Int)) :
    Calls Try.prog 3 #[.slice a ps.length c, .slice b qs.length d, .slice e es.length f, .string ⟨key.toArray⟩, .int .i64 now, .int .i64 sl] w fun r w' => r = .returned (.bool true) ∧ Below w.heap.size w w' := by
  have HAW := Lib.hid (fun W => awake_any W)
  have CG1 := Lib.hid (fun W (h : Below w.heap.size w W) => by
    have h2 := dbGreat_any a c ps W (hP.later h)
    rw [g1] at h2
    exact h2)
  have CG2 := Lib.hid (fun W (h : Below w.heap.size w W) => by
    have h2 := dbGreat_any b d qs W (hQ.later h)
    rw [g2] at h2
    exact h2)
  have CG3 := Lib.hid (fun W (h : Below w.heap.size w W) => by
    have h2 := dbHeavy_any e f es W (hE.later h)
    rw [g3] at h2
    exact h2)
  have HB := Lib.hid (Below.refl w.heap.size w)
  clear hP hQ hE
  go_enter Try.func3, Try.ntmps3
  go_wp2_with fail
  refine (CG1.out _ HB.out).mono ?_
  rintro e w1 ⟨rfl, hb⟩
  have HK1 := Lib.hid hb
  clear hb
  replace HB := Lib.hid (HB.out.trans (HK1.out.mono HB.out.size))
  go_wp2_with fail
  refine (CG2.out _ HB.out).mono ?_
  rintro e w2 ⟨rfl, hb⟩
  have HK2 := Lib.hid hb
  clear hb
  replace HB := Lib.hid (HB.out.trans (HK2.out.mono HB.out.size))
  go_wp2_with fail
  refine (CG3.out _ HB.out).mono ?_
  rintro e w3 ⟨rfl, hb⟩
  have HK3 := Lib.hid hb
  clear hb
  replace HB := Lib.hid (HB.out.trans (HK3.out.mono HB.out.size))
  go_wp2_with fail
  refine (HAW.out _).mono ?_
  rintro e wz ⟨rfl, hb⟩
  have HBZ := Lib.hid (HB.out.trans (hb.mono HB.out.size))
  clear hb
  go_wp2_with fail
  go_ret
  exact ⟨rfl, HBZ.out⟩

set_option maxRecDepth 100000 in
set_option maxHeartbeats 8000000 in
theorem spAll_e (a : Option Addr) (c : Nat) (ps : List Lp) (b : Option Addr) (d : Nat) (qs : List Lp) (e : Option Addr) (f : Nat) (es : List Le) (key : List UInt8) (now sl : Int) (w : World) (hP : Prs w a c ps) (hQ : Prs w b d qs) (hE : Efs w e f es) (na : a = none → c = 0) (hk : key.length ≤ 9223372036854775807) (g1 : greatPs ps = false) (g2 : greatPs qs = false) (g3 : greatEs es = false) (k1 : ¬ (200 : Int) < (key.length : Int)) (hl1 : ps.length ≤ 50) (hs1 : ∀ p ∈ ps, p.p.Sm) (hl2 : qs.length ≤ 50) (hs2 : ∀ p ∈ qs, p.p.Sm) (hl3 : es.length ≤ 50) (mm : Bool) (m1 : Db.mayS (ps.map Lp.p) = false) (m2 : Db.mayS (qs.map Lp.p) = mm) :
    Calls Try.prog 3 #[.slice a ps.length c, .slice b qs.length d, .slice e es.length f, .string ⟨key.toArray⟩, .int .i64 now, .int .i64 sl] w fun r w' => r = .returned (.bool true) ∧ Below w.heap.size w w' := by
  have HAW := Lib.hid (fun W => awake_any W)
  have CG1 := Lib.hid (fun W (h : Below w.heap.size w W) => by
    have h2 := dbGreat_any a c ps W (hP.later h)
    rw [g1] at h2
    exact h2)
  have CG2 := Lib.hid (fun W (h : Below w.heap.size w W) => by
    have h2 := dbGreat_any b d qs W (hQ.later h)
    rw [g2] at h2
    exact h2)
  have CG3 := Lib.hid (fun W (h : Below w.heap.size w W) => by
    have h2 := dbHeavy_any e f es W (hE.later h)
    rw [g3] at h2
    exact h2)
  have CM1 := Lib.hid (fun W (h : Below w.heap.size w W) => by
    have h2 := spmay_any a c ps W (hP.later h) (by have := hl1; omega) (gd_small hs1)
    rw [m1] at h2
    exact h2)
  have CR1 := Lib.hid (fun W (h : Below w.heap.size w W) => by
    have h2 := maySpace_any a c ps W (hP.later h) (by have := hl1; omega)
    rw [m1] at h2
    exact h2)
  have CM2 := Lib.hid (fun W (h : Below w.heap.size w W) => by
    have h2 := spmay_any b d qs W (hQ.later h) (by have := hl2; omega) (gd_small hs2)
    rw [m2] at h2
    exact h2)
  have CR2 := Lib.hid (fun W (h : Below w.heap.size w W) => by
    have h2 := maySpace_any b d qs W (hQ.later h) (by have := hl2; omega)
    rw [m2] at h2
    exact h2)
  have HB := Lib.hid (Below.refl w.heap.size w)
  clear hP hQ hE
  go_enter Try.func3, Try.ntmps3
  go_wp2_with fail
  refine (CG1.out _ HB.out).mono ?_
  rintro e w1 ⟨rfl, hb⟩
  have HK1 := Lib.hid hb
  clear hb
  replace HB := Lib.hid (HB.out.trans (HK1.out.mono HB.out.size))
  go_wp2_with fail
  refine (CG2.out _ HB.out).mono ?_
  rintro e w2 ⟨rfl, hb⟩
  have HK2 := Lib.hid hb
  clear hb
  replace HB := Lib.hid (HB.out.trans (HK2.out.mono HB.out.size))
  go_wp2_with fail
  refine (CG3.out _ HB.out).mono ?_
  rintro e w3 ⟨rfl, hb⟩
  have HK3 := Lib.hid hb
  clear hb
  replace HB := Lib.hid (HB.out.trans (HK3.out.mono HB.out.size))
  go_wp2_with fail
  refine (CM1.out _ HB.out).mono ?_
  rintro e w4 ⟨rfl, hb⟩
  have HK4 := Lib.hid hb
  clear hb
  replace HB := Lib.hid (HB.out.trans (HK4.out.mono HB.out.size))
  go_wp2_with fail
  refine (CR1.out _ HB.out).mono ?_
  rintro e w5 ⟨rfl, hb⟩
  have HK5 := Lib.hid hb
  clear hb
  replace HB := Lib.hid (HB.out.trans (HK5.out.mono HB.out.size))
  go_wp2_with fail
  refine (CM2.out _ HB.out).mono ?_
  rintro e w6 ⟨rfl, hb⟩
  have HK6 := Lib.hid hb
  clear hb
  replace HB := Lib.hid (HB.out.trans (HK6.out.mono HB.out.size))
  go_wp2_with fail
  refine (CR2.out _ HB.out).mono ?_
  rintro e w7 ⟨rfl, hb⟩
  have HK7 := Lib.hid hb
  clear hb
  replace HB := Lib.hid (HB.out.trans (HK7.out.mono HB.out.size))
  go_wp2_with fail
  refine (CR1.out _ HB.out).mono ?_
  rintro e w8 ⟨rfl, hb⟩
  have HK8 := Lib.hid hb
  clear hb
  replace HB := Lib.hid (HB.out.trans (HK8.out.mono HB.out.size))
  go_wp2_with fail
  refine (HAW.out _).mono ?_
  rintro e wz ⟨rfl, hb⟩
  have HBZ := Lib.hid (HB.out.trans (hb.mono HB.out.size))
  clear hb
  go_wp2_with fail
  go_ret
  exact ⟨rfl, HBZ.out⟩

set_option maxRecDepth 100000 in
set_option maxHeartbeats 8000000 in
theorem spAll_f (a : Option Addr) (c : Nat) (ps : List Lp) (b : Option Addr) (d : Nat) (qs : List Lp) (e : Option Addr) (f : Nat) (es : List Le) (key : List UInt8) (now sl : Int) (w : World) (hP : Prs w a c ps) (hQ : Prs w b d qs) (hE : Efs w e f es) (na : a = none → c = 0) (hk : key.length ≤ 9223372036854775807) (g1 : greatPs ps = false) (g2 : greatPs qs = false) (g3 : greatEs es = false) (k1 : ¬ (200 : Int) < (key.length : Int)) (hl1 : ps.length ≤ 50) (hs1 : ∀ p ∈ ps, p.p.Sm) (hl2 : qs.length ≤ 50) (hs2 : ∀ p ∈ qs, p.p.Sm) (hl3 : es.length ≤ 50) (m1 : Db.mayS (ps.map Lp.p) = true) (m2 : Db.mayS (qs.map Lp.p) = false) :
    Calls Try.prog 3 #[.slice a ps.length c, .slice b qs.length d, .slice e es.length f, .string ⟨key.toArray⟩, .int .i64 now, .int .i64 sl] w fun r w' => r = .returned (.bool true) ∧ Below w.heap.size w w' := by
  have HAW := Lib.hid (fun W => awake_any W)
  have CG1 := Lib.hid (fun W (h : Below w.heap.size w W) => by
    have h2 := dbGreat_any a c ps W (hP.later h)
    rw [g1] at h2
    exact h2)
  have CG2 := Lib.hid (fun W (h : Below w.heap.size w W) => by
    have h2 := dbGreat_any b d qs W (hQ.later h)
    rw [g2] at h2
    exact h2)
  have CG3 := Lib.hid (fun W (h : Below w.heap.size w W) => by
    have h2 := dbHeavy_any e f es W (hE.later h)
    rw [g3] at h2
    exact h2)
  have CM1 := Lib.hid (fun W (h : Below w.heap.size w W) => by
    have h2 := spmay_any a c ps W (hP.later h) (by have := hl1; omega) (gd_small hs1)
    rw [m1] at h2
    exact h2)
  have CR1 := Lib.hid (fun W (h : Below w.heap.size w W) => by
    have h2 := maySpace_any a c ps W (hP.later h) (by have := hl1; omega)
    rw [m1] at h2
    exact h2)
  have CM2 := Lib.hid (fun W (h : Below w.heap.size w W) => by
    have h2 := spmay_any b d qs W (hQ.later h) (by have := hl2; omega) (gd_small hs2)
    rw [m2] at h2
    exact h2)
  have CR2 := Lib.hid (fun W (h : Below w.heap.size w W) => by
    have h2 := maySpace_any b d qs W (hQ.later h) (by have := hl2; omega)
    rw [m2] at h2
    exact h2)
  have HB := Lib.hid (Below.refl w.heap.size w)
  clear hP hQ hE
  go_enter Try.func3, Try.ntmps3
  go_wp2_with fail
  refine (CG1.out _ HB.out).mono ?_
  rintro e w1 ⟨rfl, hb⟩
  have HK1 := Lib.hid hb
  clear hb
  replace HB := Lib.hid (HB.out.trans (HK1.out.mono HB.out.size))
  go_wp2_with fail
  refine (CG2.out _ HB.out).mono ?_
  rintro e w2 ⟨rfl, hb⟩
  have HK2 := Lib.hid hb
  clear hb
  replace HB := Lib.hid (HB.out.trans (HK2.out.mono HB.out.size))
  go_wp2_with fail
  refine (CG3.out _ HB.out).mono ?_
  rintro e w3 ⟨rfl, hb⟩
  have HK3 := Lib.hid hb
  clear hb
  replace HB := Lib.hid (HB.out.trans (HK3.out.mono HB.out.size))
  go_wp2_with fail
  refine (CM1.out _ HB.out).mono ?_
  rintro e w4 ⟨rfl, hb⟩
  have HK4 := Lib.hid hb
  clear hb
  replace HB := Lib.hid (HB.out.trans (HK4.out.mono HB.out.size))
  go_wp2_with fail
  refine (CR1.out _ HB.out).mono ?_
  rintro e w5 ⟨rfl, hb⟩
  have HK5 := Lib.hid hb
  clear hb
  replace HB := Lib.hid (HB.out.trans (HK5.out.mono HB.out.size))
  go_wp2_with fail
  refine (CM2.out _ HB.out).mono ?_
  rintro e w6 ⟨rfl, hb⟩
  have HK6 := Lib.hid hb
  clear hb
  replace HB := Lib.hid (HB.out.trans (HK6.out.mono HB.out.size))
  go_wp2_with fail
  refine (CR2.out _ HB.out).mono ?_
  rintro e w7 ⟨rfl, hb⟩
  have HK7 := Lib.hid hb
  clear hb
  replace HB := Lib.hid (HB.out.trans (HK7.out.mono HB.out.size))
  go_wp2_with fail
  refine (CR1.out _ HB.out).mono ?_
  rintro e w8 ⟨rfl, hb⟩
  have HK8 := Lib.hid hb
  clear hb
  replace HB := Lib.hid (HB.out.trans (HK8.out.mono HB.out.size))
  go_wp2_with fail
  refine (CR2.out _ HB.out).mono ?_
  rintro e w9 ⟨rfl, hb⟩
  have HK9 := Lib.hid hb
  clear hb
  replace HB := Lib.hid (HB.out.trans (HK9.out.mono HB.out.size))
  go_wp2_with fail
  refine (HAW.out _).mono ?_
  rintro e wz ⟨rfl, hb⟩
  have HBZ := Lib.hid (HB.out.trans (hb.mono HB.out.size))
  clear hb
  go_wp2_with fail
  go_ret
  exact ⟨rfl, HBZ.out⟩

set_option maxRecDepth 100000 in
set_option maxHeartbeats 8000000 in
theorem spAll_g (a : Option Addr) (c : Nat) (ps : List Lp) (b : Option Addr) (d : Nat) (qs : List Lp) (e : Option Addr) (f : Nat) (es : List Le) (key : List UInt8) (now sl : Int) (w : World) (hP : Prs w a c ps) (hQ : Prs w b d qs) (hE : Efs w e f es) (na : a = none → c = 0) (hk : key.length ≤ 9223372036854775807) (g1 : greatPs ps = false) (g2 : greatPs qs = false) (g3 : greatEs es = false) (k1 : ¬ (200 : Int) < (key.length : Int)) (hl1 : ps.length ≤ 50) (hs1 : ∀ p ∈ ps, p.p.Sm) (hl2 : qs.length ≤ 50) (hs2 : ∀ p ∈ qs, p.p.Sm) (hl3 : es.length ≤ 50) (m1 : Db.mayS (ps.map Lp.p) = true) (m2 : Db.mayS (qs.map Lp.p) = true) (m3 : (es.all fun e => Db.mayE e.e) = false) :
    Calls Try.prog 3 #[.slice a ps.length c, .slice b qs.length d, .slice e es.length f, .string ⟨key.toArray⟩, .int .i64 now, .int .i64 sl] w fun r w' => r = .returned (.bool true) ∧ Below w.heap.size w w' := by
  have HAW := Lib.hid (fun W => awake_any W)
  have CG1 := Lib.hid (fun W (h : Below w.heap.size w W) => by
    have h2 := dbGreat_any a c ps W (hP.later h)
    rw [g1] at h2
    exact h2)
  have CG2 := Lib.hid (fun W (h : Below w.heap.size w W) => by
    have h2 := dbGreat_any b d qs W (hQ.later h)
    rw [g2] at h2
    exact h2)
  have CG3 := Lib.hid (fun W (h : Below w.heap.size w W) => by
    have h2 := dbHeavy_any e f es W (hE.later h)
    rw [g3] at h2
    exact h2)
  have CM1 := Lib.hid (fun W (h : Below w.heap.size w W) => by
    have h2 := spmay_any a c ps W (hP.later h) (by have := hl1; omega) (gd_small hs1)
    rw [m1] at h2
    exact h2)
  have CR1 := Lib.hid (fun W (h : Below w.heap.size w W) => by
    have h2 := maySpace_any a c ps W (hP.later h) (by have := hl1; omega)
    rw [m1] at h2
    exact h2)
  have CM2 := Lib.hid (fun W (h : Below w.heap.size w W) => by
    have h2 := spmay_any b d qs W (hQ.later h) (by have := hl2; omega) (gd_small hs2)
    rw [m2] at h2
    exact h2)
  have CR2 := Lib.hid (fun W (h : Below w.heap.size w W) => by
    have h2 := maySpace_any b d qs W (hQ.later h) (by have := hl2; omega)
    rw [m2] at h2
    exact h2)
  have CME := Lib.hid (fun W (h : Below w.heap.size w W) => by
    have h2 := mayEffects_any e f es W (hE.later h) (by have := hl3; omega)
    rw [m3] at h2
    exact h2)
  have HB := Lib.hid (Below.refl w.heap.size w)
  clear hP hQ hE
  go_enter Try.func3, Try.ntmps3
  go_wp2_with fail
  refine (CG1.out _ HB.out).mono ?_
  rintro e w1 ⟨rfl, hb⟩
  have HK1 := Lib.hid hb
  clear hb
  replace HB := Lib.hid (HB.out.trans (HK1.out.mono HB.out.size))
  go_wp2_with fail
  refine (CG2.out _ HB.out).mono ?_
  rintro e w2 ⟨rfl, hb⟩
  have HK2 := Lib.hid hb
  clear hb
  replace HB := Lib.hid (HB.out.trans (HK2.out.mono HB.out.size))
  go_wp2_with fail
  refine (CG3.out _ HB.out).mono ?_
  rintro e w3 ⟨rfl, hb⟩
  have HK3 := Lib.hid hb
  clear hb
  replace HB := Lib.hid (HB.out.trans (HK3.out.mono HB.out.size))
  go_wp2_with fail
  refine (CM1.out _ HB.out).mono ?_
  rintro e w4 ⟨rfl, hb⟩
  have HK4 := Lib.hid hb
  clear hb
  replace HB := Lib.hid (HB.out.trans (HK4.out.mono HB.out.size))
  go_wp2_with fail
  refine (CR1.out _ HB.out).mono ?_
  rintro e w5 ⟨rfl, hb⟩
  have HK5 := Lib.hid hb
  clear hb
  replace HB := Lib.hid (HB.out.trans (HK5.out.mono HB.out.size))
  go_wp2_with fail
  refine (CM2.out _ HB.out).mono ?_
  rintro e w6 ⟨rfl, hb⟩
  have HK6 := Lib.hid hb
  clear hb
  replace HB := Lib.hid (HB.out.trans (HK6.out.mono HB.out.size))
  go_wp2_with fail
  refine (CR2.out _ HB.out).mono ?_
  rintro e w7 ⟨rfl, hb⟩
  have HK7 := Lib.hid hb
  clear hb
  replace HB := Lib.hid (HB.out.trans (HK7.out.mono HB.out.size))
  go_wp2_with fail
  refine (CR1.out _ HB.out).mono ?_
  rintro e w8 ⟨rfl, hb⟩
  have HK8 := Lib.hid hb
  clear hb
  replace HB := Lib.hid (HB.out.trans (HK8.out.mono HB.out.size))
  go_wp2_with fail
  refine (CR2.out _ HB.out).mono ?_
  rintro e w9 ⟨rfl, hb⟩
  have HK9 := Lib.hid hb
  clear hb
  replace HB := Lib.hid (HB.out.trans (HK9.out.mono HB.out.size))
  go_wp2_with fail
  refine (CME.out _ HB.out).mono ?_
  rintro e w10 ⟨rfl, hb⟩
  have HK10 := Lib.hid hb
  clear hb
  replace HB := Lib.hid (HB.out.trans (HK10.out.mono HB.out.size))
  go_wp2_with fail
  refine (HAW.out _).mono ?_
  rintro e wz ⟨rfl, hb⟩
  have HBZ := Lib.hid (HB.out.trans (hb.mono HB.out.size))
  clear hb
  go_wp2_with fail
  go_ret
  exact ⟨rfl, HBZ.out⟩

set_option maxRecDepth 100000 in
set_option maxHeartbeats 8000000 in
theorem spAll_main (a : Option Addr) (c : Nat) (ps : List Lp) (b : Option Addr) (d : Nat) (qs : List Lp) (e : Option Addr) (f : Nat) (es : List Le) (key : List UInt8) (now sl : Int) (w : World) (hP : Prs w a c ps) (hQ : Prs w b d qs) (hE : Efs w e f es) (na : a = none → c = 0) (hk : key.length ≤ 9223372036854775807) (g1 : greatPs ps = false) (g2 : greatPs qs = false) (g3 : greatEs es = false) (k1 : ¬ (200 : Int) < (key.length : Int)) (hl1 : ps.length ≤ 50) (hs1 : ∀ p ∈ ps, p.p.Sm) (hl2 : qs.length ≤ 50) (hs2 : ∀ p ∈ qs, p.p.Sm) (hl3 : es.length ≤ 50) (hs3 : ∀ p ∈ es, p.e.Sm) (m1 : Db.mayS (ps.map Lp.p) = true) (m2 : Db.mayS (qs.map Lp.p) = true) (m3 : (es.all fun e => Db.mayE e.e) = true) :
    Calls Try.prog 3 #[.slice a ps.length c, .slice b qs.length d, .slice e es.length f, .string ⟨key.toArray⟩, .int .i64 now, .int .i64 sl] w fun r w' => r = .returned (.bool true) ∧ Below w.heap.size w w' := by
  obtain ⟨iP, hiP, hiP0, hiP1, hiP2⟩ := info_parts infoP
  have HAW := Lib.hid (fun W => awake_any W)
  have CG1 := Lib.hid (fun W (h : Below w.heap.size w W) => by
    have h2 := dbGreat_any a c ps W (hP.later h)
    rw [g1] at h2
    exact h2)
  have CG2 := Lib.hid (fun W (h : Below w.heap.size w W) => by
    have h2 := dbGreat_any b d qs W (hQ.later h)
    rw [g2] at h2
    exact h2)
  have CG3 := Lib.hid (fun W (h : Below w.heap.size w W) => by
    have h2 := dbHeavy_any e f es W (hE.later h)
    rw [g3] at h2
    exact h2)
  have CM1 := Lib.hid (fun W (h : Below w.heap.size w W) => by
    have h2 := spmay_any a c ps W (hP.later h) (by have := hl1; omega) (gd_small hs1)
    rw [m1] at h2
    exact h2)
  have CR1 := Lib.hid (fun W (h : Below w.heap.size w W) => by
    have h2 := maySpace_any a c ps W (hP.later h) (by have := hl1; omega)
    rw [m1] at h2
    exact h2)
  have CM2 := Lib.hid (fun W (h : Below w.heap.size w W) => by
    have h2 := spmay_any b d qs W (hQ.later h) (by have := hl2; omega) (gd_small hs2)
    rw [m2] at h2
    exact h2)
  have CR2 := Lib.hid (fun W (h : Below w.heap.size w W) => by
    have h2 := maySpace_any b d qs W (hQ.later h) (by have := hl2; omega)
    rw [m2] at h2
    exact h2)
  have CME := Lib.hid (fun W (h : Below w.heap.size w W) => by
    have h2 := mayEffects_any e f es W (hE.later h) (by have := hl3; omega)
    rw [m3] at h2
    exact h2)
  have HB := Lib.hid (Below.refl w.heap.size w)
  have HP := Lib.hid hP
  have HQ := Lib.hid hQ
  have HE := Lib.hid hE
  have HN := Lib.hid na
  have HASP := Lib.hid (mayS_inv m1).1
  have HAS := Lib.hid (AscP.l HASP.out)
  have HSM := Lib.hid hs1
  have HSE := Lib.hid hs3
  have hpl := hP.len
  have hpc : (ps.length : Int) ≤ (c : Int) := by omega
  have hcI : (c : Int) ≤ 9223372036854775807 := by omega
  obtain ⟨sb, hsb⟩ : ∃ sb, Db.sameS (ps.map Lp.p) (qs.map Lp.p) = sb := ⟨_, rfl⟩
  have CS1 := Lib.hid (fun W (h : Below w.heap.size w W) => by
    have h2 := spsame_any a c ps b d qs W (hP.later h) (hQ.later h) (by have := hl1; omega) (by have := hl2; omega)
    rw [hsb] at h2
    exact h2)
  have CS2 := Lib.hid (fun W (h : Below w.heap.size w W) => by
    have h2 := sameSpace_any a c ps b d qs W (hP.later h) (hQ.later h) (by have := hl1; omega) (by have := hl2; omega)
    rw [hsb] at h2
    exact h2)
  clear hP hQ hE na hs1 hs2 hs3 hsb m1 m2 m3 g1 g2 g3
  go_enter Try.func3, Try.ntmps3
  go_wp2_with fail
  refine (CG1.out _ HB.out).mono ?_
  rintro e w1 ⟨rfl, hb⟩
  have HK1 := Lib.hid hb
  clear hb
  replace HP := Lib.hid (HP.out.later HK1.out)
  replace HQ := Lib.hid (HQ.out.later HK1.out)
  replace HE := Lib.hid (HE.out.later HK1.out)
  replace HB := Lib.hid (HB.out.trans (HK1.out.mono HB.out.size))
  go_wp2_with fail
  refine (CG2.out _ HB.out).mono ?_
  rintro e w2 ⟨rfl, hb⟩
  have HK2 := Lib.hid hb
  clear hb
  replace HP := Lib.hid (HP.out.later HK2.out)
  replace HQ := Lib.hid (HQ.out.later HK2.out)
  replace HE := Lib.hid (HE.out.later HK2.out)
  replace HB := Lib.hid (HB.out.trans (HK2.out.mono HB.out.size))
  go_wp2_with fail
  refine (CG3.out _ HB.out).mono ?_
  rintro e w3 ⟨rfl, hb⟩
  have HK3 := Lib.hid hb
  clear hb
  replace HP := Lib.hid (HP.out.later HK3.out)
  replace HQ := Lib.hid (HQ.out.later HK3.out)
  replace HE := Lib.hid (HE.out.later HK3.out)
  replace HB := Lib.hid (HB.out.trans (HK3.out.mono HB.out.size))
  go_wp2_with fail
  refine (CM1.out _ HB.out).mono ?_
  rintro e w4 ⟨rfl, hb⟩
  have HK4 := Lib.hid hb
  clear hb
  replace HP := Lib.hid (HP.out.later HK4.out)
  replace HQ := Lib.hid (HQ.out.later HK4.out)
  replace HE := Lib.hid (HE.out.later HK4.out)
  replace HB := Lib.hid (HB.out.trans (HK4.out.mono HB.out.size))
  go_wp2_with fail
  refine (CR1.out _ HB.out).mono ?_
  rintro e w5 ⟨rfl, hb⟩
  have HK5 := Lib.hid hb
  clear hb
  replace HP := Lib.hid (HP.out.later HK5.out)
  replace HQ := Lib.hid (HQ.out.later HK5.out)
  replace HE := Lib.hid (HE.out.later HK5.out)
  replace HB := Lib.hid (HB.out.trans (HK5.out.mono HB.out.size))
  go_wp2_with fail
  refine (CM2.out _ HB.out).mono ?_
  rintro e w6 ⟨rfl, hb⟩
  have HK6 := Lib.hid hb
  clear hb
  replace HP := Lib.hid (HP.out.later HK6.out)
  replace HQ := Lib.hid (HQ.out.later HK6.out)
  replace HE := Lib.hid (HE.out.later HK6.out)
  replace HB := Lib.hid (HB.out.trans (HK6.out.mono HB.out.size))
  go_wp2_with fail
  refine (CR2.out _ HB.out).mono ?_
  rintro e w7 ⟨rfl, hb⟩
  have HK7 := Lib.hid hb
  clear hb
  replace HP := Lib.hid (HP.out.later HK7.out)
  replace HQ := Lib.hid (HQ.out.later HK7.out)
  replace HE := Lib.hid (HE.out.later HK7.out)
  replace HB := Lib.hid (HB.out.trans (HK7.out.mono HB.out.size))
  go_wp2_with fail
  refine (CR1.out _ HB.out).mono ?_
  rintro e w8 ⟨rfl, hb⟩
  have HK8 := Lib.hid hb
  clear hb
  replace HP := Lib.hid (HP.out.later HK8.out)
  replace HQ := Lib.hid (HQ.out.later HK8.out)
  replace HE := Lib.hid (HE.out.later HK8.out)
  replace HB := Lib.hid (HB.out.trans (HK8.out.mono HB.out.size))
  go_wp2_with fail
  refine (CR2.out _ HB.out).mono ?_
  rintro e w9 ⟨rfl, hb⟩
  have HK9 := Lib.hid hb
  clear hb
  replace HP := Lib.hid (HP.out.later HK9.out)
  replace HQ := Lib.hid (HQ.out.later HK9.out)
  replace HE := Lib.hid (HE.out.later HK9.out)
  replace HB := Lib.hid (HB.out.trans (HK9.out.mono HB.out.size))
  go_wp2_with fail
  refine (CME.out _ HB.out).mono ?_
  rintro e w10 ⟨rfl, hb⟩
  have HK10 := Lib.hid hb
  clear hb
  replace HP := Lib.hid (HP.out.later HK10.out)
  replace HQ := Lib.hid (HQ.out.later HK10.out)
  replace HE := Lib.hid (HE.out.later HK10.out)
  replace HB := Lib.hid (HB.out.trans (HK10.out.mono HB.out.size))
  go_wp2_with fail
  refine (CS1.out _ HB.out).mono ?_
  rintro e w11 ⟨rfl, hb⟩
  have HK11 := Lib.hid hb
  clear hb
  replace HP := Lib.hid (HP.out.later HK11.out)
  replace HQ := Lib.hid (HQ.out.later HK11.out)
  replace HE := Lib.hid (HE.out.later HK11.out)
  replace HB := Lib.hid (HB.out.trans (HK11.out.mono HB.out.size))
  go_wp2_with fail
  refine (CS2.out _ HB.out).mono ?_
  rintro e w12 ⟨rfl, hb⟩
  have HK12 := Lib.hid hb
  clear hb
  replace HP := Lib.hid (HP.out.later HK12.out)
  replace HQ := Lib.hid (HQ.out.later HK12.out)
  replace HE := Lib.hid (HE.out.later HK12.out)
  replace HB := Lib.hid (HB.out.trans (HK12.out.mono HB.out.size))
  clear CG1 CG2 CG3 CM1 CR1 CM2 CR2 CME CS1 CS2
  go_upto_region 9 with (fail)
  have HR0 := Lib.hid (RowP.empty (Below.refl w12.heap.size w12))
  have HNW := Lib.hid (fun ad (h : a = some ad) => prs_news (show Prs (w12.alloc (.cells #[] 60)) (some ad) c ps by rw [← h]; exact HP.out.later ((Below.refl _ w12).alloc (Nat.le_refl _) _)))
  have HPO := Lib.hid HP.out.2
  go_cut [13] (fun u W => Hid (RowP w12 u ps W))
  case first =>
    cases a with
    | none =>
      obtain rfl : c = 0 := HN.out rfl
      obtain rfl : ps = [] := List.eq_nil_of_length_eq_zero (by omega)
      go_wp2_with (at_builtin; refine wpList_append_own_none rfl (.tmp 69) (.tmp 70) 22 rfl w12.heap.size 60 iP 6 Try.underlying22 hiP _ _ _ rfl HR0.out.1 rfl ?_)
      go_meet
      case rel => exact HR0
    | some ad =>
      have HN2 := Lib.hid (HNW.out ad rfl)
      go_wp2_with (at_builtin; refine wpList_append_own _ rfl (.tmp 69) (.tmp 70) 22 rfl w12.heap.size 60 iP _ 6 96 Try.underlying22 hiP hiP0 hiP1 hiP2 rfl (by decide) _ _ _ rfl HR0.out.1 ad ps.length c (ps.map Lp.cs).flatten rfl (by rw [flat_len (lp_six ps), List.length_map]) HN2.out (flat_one ps) (by unfold maxLen; simp; omega) (by simp; omega) (by simp) ?_)
      intro v1 w1 hown hgrow _
      have HR1 := Lib.hid (RowP.many HR0.out hown (by simp) hgrow HPO.out)
      clear hown hgrow
      go_wp2_with fail
      go_meet
      case rel => exact HR1
  case rest =>
    obtain ⟨a9, c9, rfl, hP9, -⟩ := hcut.out.prs
    have HWS := Lib.hid hP9
    have HK9 := Lib.hid hcut.out.2.1
    clear hP9 hcut HR0 HNW HPO
    replace HP := Lib.hid (HP.out.later HK9.out)
    replace HQ := Lib.hid (HQ.out.later HK9.out)
    replace HE := Lib.hid (HE.out.later HK9.out)
    replace HB := Lib.hid (HB.out.trans (HK9.out.mono HB.out.size))
    go_wp2_with fail
    refine (spget_any a c ps key now _ HP.out (by omega) HAS.out HSM.out).mono ?_
    rintro e w21 ⟨o', rfl, ho', hok, hb, -⟩
    have HK21 := Lib.hid hb
    clear hb
    replace HP := Lib.hid (HP.out.later HK21.out)
    replace HQ := Lib.hid (HQ.out.later HK21.out)
    replace HE := Lib.hid (HE.out.later HK21.out)
    replace HWS := Lib.hid (HWS.out.later HK21.out)
    replace HB := Lib.hid (HB.out.trans (HK21.out.mono HB.out.size))
    obtain ⟨hg1, hg2⟩ := got_eq ho'
    unfold gotT
    obtain ⟨q, hq⟩ : ∃ q, o'.getD Li.zero = q := ⟨_, rfl⟩
    obtain ⟨g, hg⟩ : ∃ g, o'.isSome = g := ⟨_, rfl⟩
    rw [hq] at hg1 hok
    rw [hg] at hg2
    rw [hq, hg]
    have HG1q := Lib.hid hg1
    have HG2q := Lib.hid hg2
    have HOq := Lib.hid (show q.Ok w21 from hok)
    clear ho' hok hg1 hg2 hq hg
    obtain ⟨w22, hw22⟩ : ∃ w22, w21.alloc (.cells #[.int .i64 q.k, .string ⟨q.s.toArray⟩, .slice q.aF q.fs.length q.cF, .slice q.aL q.ws.length q.cL, .int .i64 q.x] 31) = w22 := ⟨_, rfl⟩
    have HK22 : Hid (Below w21.heap.size w21 w22) := Lib.hid (by rw [← hw22]; exact (Below.refl _ w21).alloc (Nat.le_refl _) _)
    have HXq : Hid (ItBox w22 w21.heap.size q.k q.s q.aF q.fs.length q.cF q.aL q.ws.length q.cL q.x) := Lib.hid (by rw [← hw22]; exact ItBox.new w21 q.k q.s q.aF q.fs.length q.cF q.aL q.ws.length q.cL q.x)
    have HW22 := Lib.hid hw22
    clear hw22
    replace HP := Lib.hid (HP.out.later HK22.out)
    replace HQ := Lib.hid (HQ.out.later HK22.out)
    replace HE := Lib.hid (HE.out.later HK22.out)
    replace HWS := Lib.hid (HWS.out.later HK22.out)
    replace HOq := Lib.hid (HOq.out.later HK22.out)
    replace HB := Lib.hid (HB.out.trans (HK22.out.mono HB.out.size))
    go_upto_region 11 with (fail)
    rw [show w21.alloc (.cells #[.int .i64 q.k, .string ⟨q.s.toArray⟩, .slice q.aF q.fs.length q.cF, .slice q.aL q.ws.length q.cL, .int .i64 q.x] 31) = w22 from HW22.out]
    clear HW22
    go_wp2_with fail
    refine (spraw_any a c ps key _ HP.out (by omega) HAS.out HSM.out).mono ?_
    rintro e w23 ⟨o', rfl, ho', hok, hb, -⟩
    have HK23 := Lib.hid hb
    clear hb
    replace HP := Lib.hid (HP.out.later HK23.out)
    replace HQ := Lib.hid (HQ.out.later HK23.out)
    replace HE := Lib.hid (HE.out.later HK23.out)
    replace HWS := Lib.hid (HWS.out.later HK23.out)
    replace HOq := Lib.hid (HOq.out.later HK23.out)
    replace HXq := Lib.hid (HXq.out.later HK23.out)
    replace HB := Lib.hid (HB.out.trans (HK23.out.mono HB.out.size))
    obtain ⟨hg1, hg2⟩ := got_eq ho'
    unfold gotT
    obtain ⟨q2, hq⟩ : ∃ q2, o'.getD Li.zero = q2 := ⟨_, rfl⟩
    obtain ⟨g2, hg⟩ : ∃ g2, o'.isSome = g2 := ⟨_, rfl⟩
    rw [hq] at hg1 hok
    rw [hg] at hg2
    rw [hq, hg]
    have HG1q2 := Lib.hid hg1
    have HG2q2 := Lib.hid hg2
    have HOq2 := Lib.hid (show q2.Ok w23 from hok)
    clear ho' hok hg1 hg2 hq hg
    obtain ⟨w24, hw24⟩ : ∃ w24, w23.alloc (.cells #[.int .i64 q2.k, .string ⟨q2.s.toArray⟩, .slice q2.aF q2.fs.length q2.cF, .slice q2.aL q2.ws.length q2.cL, .int .i64 q2.x] 31) = w24 := ⟨_, rfl⟩
    have HK24 : Hid (Below w23.heap.size w23 w24) := Lib.hid (by rw [← hw24]; exact (Below.refl _ w23).alloc (Nat.le_refl _) _)
    have HXq2 : Hid (ItBox w24 w23.heap.size q2.k q2.s q2.aF q2.fs.length q2.cF q2.aL q2.ws.length q2.cL q2.x) := Lib.hid (by rw [← hw24]; exact ItBox.new w23 q2.k q2.s q2.aF q2.fs.length q2.cF q2.aL q2.ws.length q2.cL q2.x)
    have HW24 := Lib.hid hw24
    clear hw24
    replace HP := Lib.hid (HP.out.later HK24.out)
    replace HQ := Lib.hid (HQ.out.later HK24.out)
    replace HE := Lib.hid (HE.out.later HK24.out)
    replace HWS := Lib.hid (HWS.out.later HK24.out)
    replace HOq := Lib.hid (HOq.out.later HK24.out)
    replace HXq := Lib.hid (HXq.out.later HK24.out)
    replace HOq2 := Lib.hid (HOq2.out.later HK24.out)
    replace HB := Lib.hid (HB.out.trans (HK24.out.mono HB.out.size))
    go_upto_region 12 with (fail)
    rw [show w23.alloc (.cells #[.int .i64 q2.k, .string ⟨q2.s.toArray⟩, .slice q2.aF q2.fs.length q2.cF, .slice q2.aL q2.ws.length q2.cL, .int .i64 q2.x] 31) = w24 from HW24.out]
    clear HW24
    go_wp2_with fail
    refine (dbget_any a c ps key now _ HP.out (by omega)).mono ?_
    rintro e w25 ⟨rfl, hb⟩
    have HK25 := Lib.hid hb
    clear hb
    replace HP := Lib.hid (HP.out.later HK25.out)
    replace HQ := Lib.hid (HQ.out.later HK25.out)
    replace HE := Lib.hid (HE.out.later HK25.out)
    replace HWS := Lib.hid (HWS.out.later HK25.out)
    replace HOq := Lib.hid (HOq.out.later HK25.out)
    replace HXq := Lib.hid (HXq.out.later HK25.out)
    replace HOq2 := Lib.hid (HOq2.out.later HK25.out)
    replace HXq2 := Lib.hid (HXq2.out.later HK25.out)
    replace HB := Lib.hid (HB.out.trans (HK25.out.mono HB.out.size))
    unfold gotv
    have hro := getL_ok (key := key) (now := now) HP.out.2
    obtain ⟨r, hr⟩ : ∃ r, (getL ps key now).getD Li.zero = r := ⟨_, rfl⟩
    obtain ⟨g0, hg2⟩ : ∃ g0, (getL ps key now).isSome = g0 := ⟨_, rfl⟩
    have hqr := HG1q.out
    have hgg := HG2q.out
    rw [hr] at hro hqr
    rw [hg2] at hgg
    rw [hr, hg2]
    subst hgg
    have HOr := Lib.hid hro
    have HQr := Lib.hid hqr
    clear hro hqr hr hg2 HG1q HG2q
    go_wp2_with fail
    refine (raw_any a c ps key _ HP.out (by omega)).mono ?_
    rintro e w26 ⟨rfl, hb⟩
    have HK26 := Lib.hid hb
    clear hb
    replace HP := Lib.hid (HP.out.later HK26.out)
    replace HQ := Lib.hid (HQ.out.later HK26.out)
    replace HE := Lib.hid (HE.out.later HK26.out)
    replace HWS := Lib.hid (HWS.out.later HK26.out)
    replace HOq := Lib.hid (HOq.out.later HK26.out)
    replace HXq := Lib.hid (HXq.out.later HK26.out)
    replace HOq2 := Lib.hid (HOq2.out.later HK26.out)
    replace HXq2 := Lib.hid (HXq2.out.later HK26.out)
    replace HOr := Lib.hid (HOr.out.later HK26.out)
    replace HB := Lib.hid (HB.out.trans (HK26.out.mono HB.out.size))
    unfold gotv
    have hro := rawL_ok (key := key) HP.out.2
    obtain ⟨r2, hr⟩ : ∃ r2, (rawL ps key).getD Li.zero = r2 := ⟨_, rfl⟩
    obtain ⟨g0, hg2⟩ : ∃ g0, (rawL ps key).isSome = g0 := ⟨_, rfl⟩
    have hqr := HG1q2.out
    have hgg := HG2q2.out
    rw [hr] at hro hqr
    rw [hg2] at hgg
    rw [hr, hg2]
    subst hgg
    have HOr2 := Lib.hid hro
    have HQr2 := Lib.hid hqr
    clear hro hqr hr hg2 HG1q2 HG2q2
    go_upto_region 13 with (fail)
    obtain ⟨w27, hwa⟩ : ∃ w27, w26.alloc (.cells #[.int .i64 r.k, .string ⟨r.s.toArray⟩, .slice r.aF r.fs.length r.cF, .slice r.aL r.ws.length r.cL, .int .i64 r.x, .bool g] 36) = w27 := ⟨_, rfl⟩
    obtain ⟨w28, hwb⟩ : ∃ w28, w27.alloc (.cells #[.int .i64 r2.k, .string ⟨r2.s.toArray⟩, .slice r2.aF r2.fs.length r2.cF, .slice r2.aL r2.ws.length r2.cL, .int .i64 r2.x, .bool g2] 36) = w28 := ⟨_, rfl⟩
    have HK27 : Hid (Below w26.heap.size w26 w27) := Lib.hid (by rw [← hwa]; exact (Below.refl _ w26).alloc (Nat.le_refl _) _)
    have HK28 : Hid (Below w27.heap.size w27 w28) := Lib.hid (by rw [← hwb]; exact (Below.refl _ w27).alloc (Nat.le_refl _) _)
    have HGX : Hid (Gb w27 w26.heap.size r.k r.s r.aF r.fs.length r.cF r.aL r.ws.length r.cL r.x g) := Lib.hid (by rw [← hwa]; exact World.alloc_heap_new w26 _)
    have HGY : Hid (Gb w28 (w26.heap.size + 1) r2.k r2.s r2.aF r2.fs.length r2.cF r2.aL r2.ws.length r2.cL r2.x g2) := Lib.hid (by rw [show w26.heap.size + 1 = w27.heap.size by rw [← hwa, World.size_alloc], ← hwb]; exact World.alloc_heap_new w27 _)
    have HWA := Lib.hid hwa
    have HWB := Lib.hid hwb
    clear hwa hwb
    replace HP := Lib.hid (HP.out.later HK27.out)
    replace HQ := Lib.hid (HQ.out.later HK27.out)
    replace HE := Lib.hid (HE.out.later HK27.out)
    replace HWS := Lib.hid (HWS.out.later HK27.out)
    replace HOq := Lib.hid (HOq.out.later HK27.out)
    replace HXq := Lib.hid (HXq.out.later HK27.out)
    replace HOq2 := Lib.hid (HOq2.out.later HK27.out)
    replace HXq2 := Lib.hid (HXq2.out.later HK27.out)
    replace HOr := Lib.hid (HOr.out.later HK27.out)
    replace HOr2 := Lib.hid (HOr2.out.later HK27.out)
    replace HB := Lib.hid (HB.out.trans (HK27.out.mono HB.out.size))
    replace HP := Lib.hid (HP.out.later HK28.out)
    replace HQ := Lib.hid (HQ.out.later HK28.out)
    replace HE := Lib.hid (HE.out.later HK28.out)
    replace HWS := Lib.hid (HWS.out.later HK28.out)
    replace HOq := Lib.hid (HOq.out.later HK28.out)
    replace HXq := Lib.hid (HXq.out.later HK28.out)
    replace HOq2 := Lib.hid (HOq2.out.later HK28.out)
    replace HXq2 := Lib.hid (HXq2.out.later HK28.out)
    replace HOr := Lib.hid (HOr.out.later HK28.out)
    replace HOr2 := Lib.hid (HOr2.out.later HK28.out)
    replace HGX := Lib.hid (HGX.out.later HK28.out)
    replace HB := Lib.hid (HB.out.trans (HK28.out.mono HB.out.size))
    rw [show (w26.alloc (.cells #[.int .i64 r.k, .string ⟨r.s.toArray⟩, .slice r.aF r.fs.length r.cF, .slice r.aL r.ws.length r.cL, .int .i64 r.x, .bool g] 36)).alloc (.cells #[.int .i64 r2.k, .string ⟨r2.s.toArray⟩, .slice r2.aF r2.fs.length r2.cF, .slice r2.aL r2.ws.length r2.cL, .int .i64 r2.x, .bool g2] 36) = w28 by rw [HWA.out, HWB.out]]
    clear HWA HWB
    obtain ⟨d0, d1, d2, d3, d4⟩ := HXq.out.at
    obtain ⟨⟨f0, f1, f2, f3, f4, f5⟩, -⟩ := HGX.out.at
    go_wp2_with fail
    refine (sameI_any q r _ HOq.out HOr.out).mono ?_
    rintro e w29 ⟨rfl, hb⟩
    have HK29 := Lib.hid hb
    clear hb
    replace HP := Lib.hid (HP.out.later HK29.out)
    replace HQ := Lib.hid (HQ.out.later HK29.out)
    replace HE := Lib.hid (HE.out.later HK29.out)
    replace HWS := Lib.hid (HWS.out.later HK29.out)
    replace HOq := Lib.hid (HOq.out.later HK29.out)
    replace HXq := Lib.hid (HXq.out.later HK29.out)
    replace HOq2 := Lib.hid (HOq2.out.later HK29.out)
    replace HXq2 := Lib.hid (HXq2.out.later HK29.out)
    replace HOr := Lib.hid (HOr.out.later HK29.out)
    replace HOr2 := Lib.hid (HOr2.out.later HK29.out)
    replace HGX := Lib.hid (HGX.out.later HK29.out)
    replace HGY := Lib.hid (HGY.out.later HK29.out)
    replace HB := Lib.hid (HB.out.trans (HK29.out.mono HB.out.size))
    rw [show It.sameB q.i r.i = true by rw [HQr.out]; exact It.same_self _]
    clear d0 d1 d2 d3 d4 f0 f1 f2 f3 f4 f5
    obtain ⟨⟨f0, f1, f2, f3, f4, f5⟩, -⟩ := HGX.out.at
    obtain ⟨d0, d1, d2, d3, d4⟩ := HXq2.out.at
    obtain ⟨⟨e0, e1, e2, e3, e4, e5⟩, -⟩ := HGY.out.at
    go_wp2_with fail
    refine (sameI_any q2 r2 _ HOq2.out HOr2.out).mono ?_
    rintro e w30 ⟨rfl, hb⟩
    have HK30 := Lib.hid hb
    clear hb
    replace HP := Lib.hid (HP.out.later HK30.out)
    replace HQ := Lib.hid (HQ.out.later HK30.out)
    replace HE := Lib.hid (HE.out.later HK30.out)
    replace HWS := Lib.hid (HWS.out.later HK30.out)
    replace HOq2 := Lib.hid (HOq2.out.later HK30.out)
    replace HXq2 := Lib.hid (HXq2.out.later HK30.out)
    replace HOr2 := Lib.hid (HOr2.out.later HK30.out)
    replace HGX := Lib.hid (HGX.out.later HK30.out)
    replace HGY := Lib.hid (HGY.out.later HK30.out)
    replace HB := Lib.hid (HB.out.trans (HK30.out.mono HB.out.size))
    rw [show It.sameB q2.i r2.i = true by rw [HQr2.out]; exact It.same_self _]
    clear d0 d1 d2 d3 d4 e0 e1 e2 e3 e4 e5 f0 f1 f2 f3 f4 f5
    obtain ⟨⟨e0, e1, e2, e3, e4, e5⟩, -⟩ := HGY.out.at
    go_wp2_with fail
    refine (sps_any a c ps e f es _ HP.out HE.out (by omega) (by omega) HN.out HAS.out HSM.out HSE.out).mono ?_
    rintro e w31 ⟨a3, c3, rs, rfl, hp3, hn3, hq3, hb⟩
    have HK31 := Lib.hid hb
    clear hb
    replace HP := Lib.hid (HP.out.later HK31.out)
    replace HQ := Lib.hid (HQ.out.later HK31.out)
    replace HE := Lib.hid (HE.out.later HK31.out)
    replace HWS := Lib.hid (HWS.out.later HK31.out)
    replace HGY := Lib.hid (HGY.out.later HK31.out)
    replace HB := Lib.hid (HB.out.trans (HK31.out.mono HB.out.size))
    clear e0 e1 e2 e3 e4 e5
    have HR := Lib.hid hp3
    have HRQ := Lib.hid hq3
    have hrl : rs.length ≤ 100 := by have h1 := app_len (es.map Le.e) (ps.map Lp.p); rw [← hq3] at h1; simp only [List.length_map] at h1; omega
    clear hp3 hn3 hq3
    go_wp2_with fail
    refine (refApply_any a c ps e f es _ HP.out HE.out (by omega) (by omega) HN.out).mono ?_
    rintro e w32 ⟨a4, c4, ts, rfl, hp4, hn4, hq4, hb⟩
    have HK32 := Lib.hid hb
    clear hb
    replace HP := Lib.hid (HP.out.later HK32.out)
    replace HQ := Lib.hid (HQ.out.later HK32.out)
    replace HE := Lib.hid (HE.out.later HK32.out)
    replace HWS := Lib.hid (HWS.out.later HK32.out)
    replace HR := Lib.hid (HR.out.later HK32.out)
    replace HB := Lib.hid (HB.out.trans (HK32.out.mono HB.out.size))
    have HT := Lib.hid hp4
    have htl : ts.length ≤ 100 := by have h1 := app_len (es.map Le.e) (ps.map Lp.p); rw [← hq4] at h1; simp only [List.length_map] at h1; omega
    have hss := sameSpace_any a3 c3 rs a4 c4 ts _ HR.out hp4 (by omega) (by omega)
    rw [hq4, HRQ.out, sameS_self] at hss
    have HSS := Lib.hid hss
    clear hp4 hn4 hq4 hss
    go_wp2_with fail
    refine (HSS.out).mono ?_
    rintro e w33 ⟨rfl, hb⟩
    have HK33 := Lib.hid hb
    clear hb
    replace HP := Lib.hid (HP.out.later HK33.out)
    replace HQ := Lib.hid (HQ.out.later HK33.out)
    replace HE := Lib.hid (HE.out.later HK33.out)
    replace HWS := Lib.hid (HWS.out.later HK33.out)
    replace HR := Lib.hid (HR.out.later HK33.out)
    replace HB := Lib.hid (HB.out.trans (HK33.out.mono HB.out.size))
    go_wp2_with fail
    refine (spin_any a c ps sl _ HP.out (by omega) (fun q h => (HSM.out q h).1)).mono ?_
    rintro e w34 ⟨u5, rfl, hr5⟩
    obtain ⟨a5, c5, rfl, hw5, hb⟩ := words_of_row hr5 (fun s h => by obtain ⟨q2, h2, rfl⟩ := List.mem_map.1 (inS_mem h).1; have := (HSM.out q2 h2).1; simp only [Lp.p] at this; omega)
    have HK34 := Lib.hid hb
    have HL := Lib.hid hw5
    clear hr5 hw5 hb
    replace HP := Lib.hid (HP.out.later HK34.out)
    replace HQ := Lib.hid (HQ.out.later HK34.out)
    replace HE := Lib.hid (HE.out.later HK34.out)
    replace HWS := Lib.hid (HWS.out.later HK34.out)
    replace HB := Lib.hid (HB.out.trans (HK34.out.mono HB.out.size))
    go_wp2_with fail
    refine (in_any a c ps sl _ HP.out (by omega)).mono ?_
    rintro e w35 ⟨u6, rfl, hr6⟩
    obtain ⟨a6, c6, rfl, hw6, hb⟩ := words_of_row hr6 (fun s h => by obtain ⟨q2, h2, rfl⟩ := List.mem_map.1 (inS_mem h).1; have := (HSM.out q2 h2).1; simp only [Lp.p] at this; omega)
    have HK35 := Lib.hid hb
    have HL2 := Lib.hid hw6
    clear hr6 hw6 hb
    replace HP := Lib.hid (HP.out.later HK35.out)
    replace HQ := Lib.hid (HQ.out.later HK35.out)
    replace HE := Lib.hid (HE.out.later HK35.out)
    replace HWS := Lib.hid (HWS.out.later HK35.out)
    replace HL := Lib.hid (HL.out.later HK35.out)
    replace HB := Lib.hid (HB.out.trans (HK35.out.mono HB.out.size))
    have htx := texts_any a5 a6 c5 c6 _ _ _ HL.out HL2.out
    rw [decide_eq_true rfl] at htx
    have HTX := Lib.hid htx
    clear htx
    go_wp2_with fail
    refine (HTX.out).mono ?_
    rintro e w36 ⟨rfl, hb⟩
    have HK36 := Lib.hid hb
    clear hb
    replace HP := Lib.hid (HP.out.later HK36.out)
    replace HQ := Lib.hid (HQ.out.later HK36.out)
    replace HE := Lib.hid (HE.out.later HK36.out)
    replace HWS := Lib.hid (HWS.out.later HK36.out)
    replace HL := Lib.hid (HL.out.later HK36.out)
    replace HB := Lib.hid (HB.out.trans (HK36.out.mono HB.out.size))
    go_wp2_with fail
    refine (spall_any a c ps _ HP.out (by omega) HSM.out).mono ?_
    rintro e w37 ⟨a7, c7, fs, rfl, he, hn, hq, hb⟩
    have HK37 := Lib.hid hb
    clear hb
    replace HP := Lib.hid (HP.out.later HK37.out)
    replace HQ := Lib.hid (HQ.out.later HK37.out)
    replace HE := Lib.hid (HE.out.later HK37.out)
    replace HWS := Lib.hid (HWS.out.later HK37.out)
    replace HB := Lib.hid (HB.out.trans (HK37.out.mono HB.out.size))
    have HF := Lib.hid he
    have hfl : fs.length ≤ 50 := by have h1 := congrArg List.length hq; rw [show (Db.all (ps.map Lp.p)).length = ps.length by simp [Db.all], List.length_map] at h1; omega
    have HFQ := Lib.hid hq
    clear he hn hq
    go_wp2_with fail
    refine (all_any a c ps _ HP.out (by omega)).mono ?_
    rintro e w38 ⟨u8, rfl, hr8⟩
    obtain ⟨ls, h8⟩ : ∃ x, ps.map setE = x := ⟨_, rfl⟩
    have h8e : ls.map Le.e = Db.all (ps.map Lp.p) := by rw [← h8, setE_all]
    have h8l : ls.length ≤ 50 := by rw [← h8, List.length_map]; omega
    have HLS := Lib.hid h8e
    rw [h8] at hr8
    clear h8 h8e
    obtain ⟨a8, c8, rfl, he8, -⟩ := hr8.efs
    have HK38 := Lib.hid hr8.2.1
    have HG := Lib.hid he8
    clear hr8 he8
    replace HP := Lib.hid (HP.out.later HK38.out)
    replace HQ := Lib.hid (HQ.out.later HK38.out)
    replace HE := Lib.hid (HE.out.later HK38.out)
    replace HWS := Lib.hid (HWS.out.later HK38.out)
    replace HF := Lib.hid (HF.out.later HK38.out)
    replace HB := Lib.hid (HB.out.trans (HK38.out.mono HB.out.size))
    have hss := sameEffects_any a7 c7 fs a8 c8 ls _ HF.out HG.out (by omega) (by omega)
    rw [HLS.out, HFQ.out, sameES_self] at hss
    have HSS2 := Lib.hid hss
    clear hss
    go_wp2_with fail
    refine (HSS2.out).mono ?_
    rintro e w39 ⟨rfl, hb⟩
    have HK39 := Lib.hid hb
    clear hb
    replace HP := Lib.hid (HP.out.later HK39.out)
    replace HQ := Lib.hid (HQ.out.later HK39.out)
    replace HE := Lib.hid (HE.out.later HK39.out)
    replace HWS := Lib.hid (HWS.out.later HK39.out)
    replace HF := Lib.hid (HF.out.later HK39.out)
    replace HB := Lib.hid (HB.out.trans (HK39.out.mono HB.out.size))
    have hss := sameSpace_any a c ps a9 c9 ps _ HP.out HWS.out (by omega) (by omega)
    rw [sameS_self] at hss
    have HSS3 := Lib.hid hss
    clear hss
    go_wp2_with fail
    refine (HSS3.out).mono ?_
    rintro e w40 ⟨rfl, hb⟩
    have HK40 := Lib.hid hb
    clear hb
    replace HP := Lib.hid (HP.out.later HK40.out)
    replace HQ := Lib.hid (HQ.out.later HK40.out)
    replace HE := Lib.hid (HE.out.later HK40.out)
    replace HWS := Lib.hid (HWS.out.later HK40.out)
    replace HB := Lib.hid (HB.out.trans (HK40.out.mono HB.out.size))
    go_wp2_with fail
    refine (HAW.out _).mono ?_
    rintro e w41 ⟨rfl, hb⟩
    have HK41 := Lib.hid hb
    clear hb
    replace HP := Lib.hid (HP.out.later HK41.out)
    replace HQ := Lib.hid (HQ.out.later HK41.out)
    replace HE := Lib.hid (HE.out.later HK41.out)
    replace HWS := Lib.hid (HWS.out.later HK41.out)
    replace HB := Lib.hid (HB.out.trans (HK41.out.mono HB.out.size))
    go_wp2_with fail
    go_ret
    exact ⟨rfl, HB.out⟩

theorem spaceAll_walk (a : Option Addr) (c : Nat) (ps : List Lp) (b : Option Addr) (d : Nat) (qs : List Lp) (e : Option Addr) (f : Nat) (es : List Le) (key : List UInt8) (now sl : Int) (w : World) (hP : Prs w a c ps) (hQ : Prs w b d qs) (hE : Efs w e f es) (na : a = none → c = 0) (hk : key.length ≤ 9223372036854775807) :
    Calls Try.prog 3 #[.slice a ps.length c, .slice b qs.length d, .slice e es.length f, .string ⟨key.toArray⟩, .int .i64 now, .int .i64 sl] w fun r w' => r = .returned (.bool true) ∧ Below w.heap.size w w' := by
  cases g1 : greatPs ps with
  | true => exact spAll_a a c ps b d qs e f es key now sl w hP hQ hE na hk g1
  | false =>
  cases g2 : greatPs qs with
  | true => exact spAll_b a c ps b d qs e f es key now sl w hP hQ hE na hk g1 g2
  | false =>
  cases g3 : greatEs es with
  | true => exact spAll_c a c ps b d qs e f es key now sl w hP hQ hE na hk g1 g2 g3
  | false =>
  by_cases k1 : (200 : Int) < (key.length : Int)
  · exact spAll_d a c ps b d qs e f es key now sl w hP hQ hE na hk g1 g2 g3 k1
  obtain ⟨hl1, hs1⟩ := notGreatP g1
  obtain ⟨hl2, hs2⟩ := notGreatP g2
  obtain ⟨hl3, hs3⟩ := notGreatE g3
  cases m1 : Db.mayS (ps.map Lp.p) with
  | false => exact spAll_e a c ps b d qs e f es key now sl w hP hQ hE na hk g1 g2 g3 k1 hl1 hs1 hl2 hs2 hl3 _ m1 rfl
  | true =>
  cases m2 : Db.mayS (qs.map Lp.p) with
  | false => exact spAll_f a c ps b d qs e f es key now sl w hP hQ hE na hk g1 g2 g3 k1 hl1 hs1 hl2 hs2 hl3 m1 m2
  | true =>
  cases m3 : (es.all fun e => Db.mayE e.e) with
  | false => exact spAll_g a c ps b d qs e f es key now sl w hP hQ hE na hk g1 g2 g3 k1 hl1 hs1 hl2 hs2 hl3 m1 m2 m3
  | true => exact spAll_main a c ps b d qs e f es key now sl w hP hQ hE na hk g1 g2 g3 k1 hl1 hs1 hl2 hs2 hl3 hs3 m1 m2 m3
end Go.Proofs.Ytkmdpmkjcfccnaa
