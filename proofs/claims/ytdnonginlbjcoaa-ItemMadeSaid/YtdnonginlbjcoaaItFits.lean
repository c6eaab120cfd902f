/- The contract of fits: whether an item is valid as far as that hangs neither on its end of life nor on how long its texts are. -/
import Derived.Test.YtdnonginlbjcoaaItRises
import Derived.Test.YtdnonginlbjcoaaItTexts
namespace Go.Proofs.Ytdnonginlbjcoaa
open Go.RowKit Go.Shelf
attribute [local go_sem] Oper.semAt_some

theorem names_mk (a : Option Addr) (n c : Nat) (w : World) : Calls Try.prog 33 #[.slice a n c] w fun e w' =>
    e = .returned (.func (.func 38) #[] #[.pointer (some ⟨w.heap.size, 0, none⟩)]) ∧ w' = w.alloc (.cells #[.slice a n c] 22) := by
  go_enter Try.func33, Try.ntmps33
  go_wp2
  go_ret
  exact ⟨rfl, rfl⟩
theorem values_mk (a : Option Addr) (n c : Nat) (w : World) : Calls Try.prog 34 #[.slice a n c] w fun e w' =>
    e = .returned (.func (.func 39) #[] #[.pointer (some ⟨w.heap.size, 0, none⟩)]) ∧ w' = w.alloc (.cells #[.slice a n c] 23) := by
  go_enter Try.func34, Try.ntmps34
  go_wp2
  go_ret
  exact ⟨rfl, rfl⟩

theorem rises_names (Bx : Nat) (a : Option Addr) (cap : Nat) (fs : List (List UInt8 × List UInt8)) (w : World) (h1 : Boxed w Bx 22 (.slice a fs.length cap)) (h2 : Fds w a cap fs) (hn : fs.length ≤ 1000000) :
    Calls Try.prog 32 #[.func (.func 38) #[] #[.pointer (some ⟨Bx, 0, none⟩)]] w fun e W' => e = .returned (.bool (It.risB (fs.map (·.1)))) ∧ Below w.heap.size w W' :=
  callsIn_wide.1 (rises_any _ _ (enters_of Try.func38 (by kernel_rfl) rfl) _ _ _ w w (names_seq Bx a cap fs w h1 h2 hn _) (Below.refl _ _) (fun _ h => h))
theorem rises_values (Bx : Nat) (a : Option Addr) (cap : Nat) (ws : List (List UInt8)) (w : World) (h1 : Boxed w Bx 23 (.slice a ws.length cap)) (h2 : Wds w a cap ws) (hn : ws.length ≤ 1000000) :
    Calls Try.prog 32 #[.func (.func 39) #[] #[.pointer (some ⟨Bx, 0, none⟩)]] w fun e W' => e = .returned (.bool (It.risB ws)) ∧ Below w.heap.size w W' :=
  callsIn_wide.1 (rises_any _ _ (enters_of Try.func39 (by kernel_rfl) rfl) _ _ _ w w (values_seq Bx a cap ws w h1 h2 hn _) (Below.refl _ _) (fun _ h => h))

set_option maxRecDepth 100000 in
set_option maxHeartbeats 1000000 in
theorem fits_1 (x : Int) (s : List UInt8) (aF : Option Addr) (cF : Nat) (aL : Option Addr) (cL : Nat) (w : World) :
    Calls Try.prog 21 #[itv 1 s aF 0 cF aL 0 cL x] w fun e w' => e = .returned (.bool true) ∧ Below w.heap.size w w' := by
  unfold itv
  go_enter Try.func21, Try.ntmps21
  go_wp2
  go_ret
  exact ⟨rfl, (Below.refl _ _).alloc (Nat.le_refl _) _⟩

set_option maxRecDepth 100000 in
set_option maxHeartbeats 1000000 in
theorem fits_2 (x : Int) (s : List UInt8) (aF : Option Addr) (cF : Nat) (aL : Option Addr) (nL cL : Nat) (w : World) (hnL : nL ≠ 0) :
    Calls Try.prog 21 #[itv 1 s aF 0 cF aL nL cL x] w fun e w' => e = .returned (.bool false) ∧ Below w.heap.size w w' := by
  unfold itv
  have e_nL : ((nL : Int) == 0) = false := by rw [beq_eq_false_iff_ne]; omega
  clear hnL
  go_enter Try.func21, Try.ntmps21
  go_wp2
  go_ret
  exact ⟨rfl, (Below.refl _ _).alloc (Nat.le_refl _) _⟩

set_option maxRecDepth 100000 in
set_option maxHeartbeats 1000000 in
theorem fits_3 (x : Int) (s : List UInt8) (aF : Option Addr) (nF cF : Nat) (aL : Option Addr) (nL cL : Nat) (w : World) (hnF : nF ≠ 0) :
    Calls Try.prog 21 #[itv 1 s aF nF cF aL nL cL x] w fun e w' => e = .returned (.bool false) ∧ Below w.heap.size w w' := by
  unfold itv
  have e_nF : ((nF : Int) == 0) = false := by rw [beq_eq_false_iff_ne]; omega
  clear hnF
  go_enter Try.func21, Try.ntmps21
  go_wp2
  go_ret
  exact ⟨rfl, (Below.refl _ _).alloc (Nat.le_refl _) _⟩

set_option maxRecDepth 100000 in
set_option maxHeartbeats 1000000 in
theorem fits_4 (x : Int) (s : List UInt8) (aF : Option Addr) (nF cF : Nat) (aL : Option Addr) (nL cL : Nat) (w : World) (hs : ¬ s = []) :
    Calls Try.prog 21 #[itv 2 s aF nF cF aL nL cL x] w fun e w' => e = .returned (.bool false) ∧ Below w.heap.size w w' := by
  unfold itv
  go_enter Try.func21, Try.ntmps21
  go_wp2
  go_ret
  exact ⟨rfl, (Below.refl _ _).alloc (Nat.le_refl _) _⟩

set_option maxRecDepth 100000 in
set_option maxHeartbeats 1000000 in
theorem fits_5 (x : Int) (s : List UInt8) (aF : Option Addr) (nF cF : Nat) (aL : Option Addr) (nL cL : Nat) (w : World) (hs : ¬ s = []) :
    Calls Try.prog 21 #[itv 3 s aF nF cF aL nL cL x] w fun e w' => e = .returned (.bool false) ∧ Below w.heap.size w w' := by
  unfold itv
  go_enter Try.func21, Try.ntmps21
  go_wp2
  go_ret
  exact ⟨rfl, (Below.refl _ _).alloc (Nat.le_refl _) _⟩

set_option maxRecDepth 100000 in
set_option maxHeartbeats 1000000 in
theorem fits_6 (x : Int) (s : List UInt8) (aF : Option Addr) (nF cF : Nat) (aL : Option Addr) (nL cL : Nat) (w : World) (hs : ¬ s = []) :
    Calls Try.prog 21 #[itv 4 s aF nF cF aL nL cL x] w fun e w' => e = .returned (.bool false) ∧ Below w.heap.size w w' := by
  unfold itv
  go_enter Try.func21, Try.ntmps21
  go_wp2
  go_ret
  exact ⟨rfl, (Below.refl _ _).alloc (Nat.le_refl _) _⟩

set_option maxRecDepth 100000 in
set_option maxHeartbeats 1000000 in
theorem fits_7 (k x : Int) (s : List UInt8) (aF : Option Addr) (nF cF : Nat) (aL : Option Addr) (nL cL : Nat) (w : World) (h1 : ¬ k = 1) (h2 : ¬ k = 2) (h3 : ¬ k = 3) (h4 : ¬ k = 4) :
    Calls Try.prog 21 #[itv k s aF nF cF aL nL cL x] w fun e w' => e = .returned (.bool false) ∧ Below w.heap.size w w' := by
  unfold itv
  go_enter Try.func21, Try.ntmps21
  go_wp2
  go_ret
  exact ⟨rfl, (Below.refl _ _).alloc (Nat.le_refl _) _⟩

set_option maxRecDepth 100000 in
set_option maxHeartbeats 1000000 in
theorem fits_8 (x : Int) (aF : Option Addr) (nF cF : Nat) (aL : Option Addr) (nL cL : Nat) (w : World) (hct : It.countB nF = false) :
    Calls Try.prog 21 #[itv 2 [] aF nF cF aL nL cL x] w fun e w' => e = .returned (.bool false) ∧ Below w.heap.size w w' := by
  unfold itv
  have hc := fun W => mayCount_any nF W
  rw [hct] at hc
  have HC := Lib.hid hc
  clear hc hct
  go_enter Try.func21, Try.ntmps21
  go_wp2_with (go_at_call 31; refine (HC.out _).mono ?_; rintro e w1 ⟨rfl, rfl⟩)
  go_ret
  exact ⟨rfl, (Below.refl _ _).alloc (Nat.le_refl _) _⟩

set_option maxRecDepth 100000 in
set_option maxHeartbeats 1000000 in
theorem fits_9 (x : Int) (aF : Option Addr) (cF : Nat) (fs : List (List UInt8 × List UInt8)) (aL : Option Addr) (nL cL : Nat) (w : World) (hF : Fds w aF cF fs) (hlen : fs.length ≤ 1000000) (hct : It.countB fs.length = true) (hrs : It.risB (fs.map (·.1)) = false) :
    Calls Try.prog 21 #[itv 2 [] aF fs.length cF aL nL cL x] w fun e w' => e = .returned (.bool false) ∧ Below w.heap.size w w' := by
  unfold itv
  have hc := fun W => mayCount_any fs.length W
  rw [hct] at hc
  have HC := Lib.hid hc
  clear hc hct
  have hn1 : Boxed ((w.alloc (itc 2 [] aF fs.length cF aL nL cL x)).alloc (.cells #[.slice aF fs.length cF] 22)) (w.heap.size + 1) 22 (.slice aF fs.length cF) := by
    have := Boxed.new (w.alloc (itc 2 [] aF fs.length cF aL nL cL x)) 22 (.slice aF fs.length cF)
    rwa [World.size_alloc] at this
  have hn2 := rises_names (w.heap.size + 1) aF cF fs _ hn1 (hF.later (((Below.refl _ w).alloc (Nat.le_refl _) (itc 2 [] aF fs.length cF aL nL cL x)).alloc (by simp) (.cells #[.slice aF fs.length cF] 22))) hlen
  rw [hrs] at hn2
  unfold itc at hn2
  have HN := Lib.hid hn2
  clear hn1 hn2 hrs hF
  have hf0 : fs.length ≤ 1000000 := hlen
  clear hlen
  generalize fs.length = nF at *
  go_enter Try.func21, Try.ntmps21
  go_wp2_with fail
  refine (HC.out _).mono ?_
  rintro e w1 ⟨rfl, rfl⟩
  go_wp2_with fail
  refine (names_mk _ _ _ _).mono ?_
  rintro e w1 ⟨rfl, rfl⟩
  go_wp2_with fail
  refine HN.out.mono ?_
  rintro e w1 ⟨rfl, hb⟩
  have HB := Lib.hid hb
  obtain ⟨hcl, -⟩ := bcell hb
  have hsz := hb.size
  clear hb
  simp only [World.size_alloc] at hcl hsz
  go_wp2
  go_ret
  exact ⟨rfl, ((((Below.refl _ w).alloc (Nat.le_refl _) _).alloc (by simp) _).trans (HB.out.mono (by simp; omega)))⟩

set_option maxRecDepth 100000 in
set_option maxHeartbeats 1000000 in
theorem fits_10 (x : Int) (aF : Option Addr) (cF : Nat) (fs : List (List UInt8 × List UInt8)) (aL : Option Addr) (nL cL : Nat) (w : World) (hF : Fds w aF cF fs) (hlen : fs.length ≤ 1000000) (hct : It.countB fs.length = true) (hrs : It.risB (fs.map (·.1)) = true) (hnL : nL ≠ 0) :
    Calls Try.prog 21 #[itv 2 [] aF fs.length cF aL nL cL x] w fun e w' => e = .returned (.bool false) ∧ Below w.heap.size w w' := by
  unfold itv
  have hc := fun W => mayCount_any fs.length W
  rw [hct] at hc
  have HC := Lib.hid hc
  clear hc hct
  have hn1 : Boxed ((w.alloc (itc 2 [] aF fs.length cF aL nL cL x)).alloc (.cells #[.slice aF fs.length cF] 22)) (w.heap.size + 1) 22 (.slice aF fs.length cF) := by
    have := Boxed.new (w.alloc (itc 2 [] aF fs.length cF aL nL cL x)) 22 (.slice aF fs.length cF)
    rwa [World.size_alloc] at this
  have hn2 := rises_names (w.heap.size + 1) aF cF fs _ hn1 (hF.later (((Below.refl _ w).alloc (Nat.le_refl _) (itc 2 [] aF fs.length cF aL nL cL x)).alloc (by simp) (.cells #[.slice aF fs.length cF] 22))) hlen
  rw [hrs] at hn2
  unfold itc at hn2
  have HN := Lib.hid hn2
  clear hn1 hn2 hrs hF
  have hf0 : fs.length ≤ 1000000 := hlen
  clear hlen
  generalize fs.length = nF at *
  have e_nL : ((nL : Int) == 0) = false := by rw [beq_eq_false_iff_ne]; omega
  clear hnL
  go_enter Try.func21, Try.ntmps21
  go_wp2_with fail
  refine (HC.out _).mono ?_
  rintro e w1 ⟨rfl, rfl⟩
  go_wp2_with fail
  refine (names_mk _ _ _ _).mono ?_
  rintro e w1 ⟨rfl, rfl⟩
  go_wp2_with fail
  refine HN.out.mono ?_
  rintro e w1 ⟨rfl, hb⟩
  have HB := Lib.hid hb
  obtain ⟨hcl, -⟩ := bcell hb
  have hsz := hb.size
  clear hb
  simp only [World.size_alloc] at hcl hsz
  go_wp2
  go_ret
  exact ⟨rfl, ((((Below.refl _ w).alloc (Nat.le_refl _) _).alloc (by simp) _).trans (HB.out.mono (by simp; omega)))⟩

set_option maxRecDepth 100000 in
set_option maxHeartbeats 1000000 in
theorem fits_11 (x : Int) (aF : Option Addr) (cF : Nat) (fs : List (List UInt8 × List UInt8)) (aL : Option Addr) (cL : Nat) (w : World) (hF : Fds w aF cF fs) (hlen : fs.length ≤ 1000000) (hct : It.countB fs.length = true) (hrs : It.risB (fs.map (·.1)) = true) :
    Calls Try.prog 21 #[itv 2 [] aF fs.length cF aL 0 cL x] w fun e w' => e = .returned (.bool true) ∧ Below w.heap.size w w' := by
  unfold itv
  have hc := fun W => mayCount_any fs.length W
  rw [hct] at hc
  have HC := Lib.hid hc
  clear hc hct
  have hn1 : Boxed ((w.alloc (itc 2 [] aF fs.length cF aL 0 cL x)).alloc (.cells #[.slice aF fs.length cF] 22)) (w.heap.size + 1) 22 (.slice aF fs.length cF) := by
    have := Boxed.new (w.alloc (itc 2 [] aF fs.length cF aL 0 cL x)) 22 (.slice aF fs.length cF)
    rwa [World.size_alloc] at this
  have hn2 := rises_names (w.heap.size + 1) aF cF fs _ hn1 (hF.later (((Below.refl _ w).alloc (Nat.le_refl _) (itc 2 [] aF fs.length cF aL 0 cL x)).alloc (by simp) (.cells #[.slice aF fs.length cF] 22))) hlen
  rw [hrs] at hn2
  unfold itc at hn2
  have HN := Lib.hid hn2
  clear hn1 hn2 hrs hF
  have hf0 : fs.length ≤ 1000000 := hlen
  clear hlen
  generalize fs.length = nF at *
  go_enter Try.func21, Try.ntmps21
  go_wp2_with fail
  refine (HC.out _).mono ?_
  rintro e w1 ⟨rfl, rfl⟩
  go_wp2_with fail
  refine (names_mk _ _ _ _).mono ?_
  rintro e w1 ⟨rfl, rfl⟩
  go_wp2_with fail
  refine HN.out.mono ?_
  rintro e w1 ⟨rfl, hb⟩
  have HB := Lib.hid hb
  obtain ⟨hcl, -⟩ := bcell hb
  have hsz := hb.size
  clear hb
  simp only [World.size_alloc] at hcl hsz
  go_wp2
  go_ret
  exact ⟨rfl, ((((Below.refl _ w).alloc (Nat.le_refl _) _).alloc (by simp) _).trans (HB.out.mono (by simp; omega)))⟩

set_option maxRecDepth 100000 in
set_option maxHeartbeats 1000000 in
theorem fits_12 (x : Int) (aF : Option Addr) (nF cF : Nat) (aL : Option Addr) (nL cL : Nat) (w : World) (hnF : nF ≠ 0) :
    Calls Try.prog 21 #[itv 3 [] aF nF cF aL nL cL x] w fun e w' => e = .returned (.bool false) ∧ Below w.heap.size w w' := by
  unfold itv
  have e_nF : ((nF : Int) == 0) = false := by rw [beq_eq_false_iff_ne]; omega
  clear hnF
  go_enter Try.func21, Try.ntmps21
  go_wp2
  go_ret
  exact ⟨rfl, (Below.refl _ _).alloc (Nat.le_refl _) _⟩

set_option maxRecDepth 100000 in
set_option maxHeartbeats 1000000 in
theorem fits_13 (x : Int) (aF : Option Addr) (nF cF : Nat) (aL : Option Addr) (nL cL : Nat) (w : World) (hnF : nF ≠ 0) :
    Calls Try.prog 21 #[itv 4 [] aF nF cF aL nL cL x] w fun e w' => e = .returned (.bool false) ∧ Below w.heap.size w w' := by
  unfold itv
  have e_nF : ((nF : Int) == 0) = false := by rw [beq_eq_false_iff_ne]; omega
  clear hnF
  go_enter Try.func21, Try.ntmps21
  go_wp2
  go_ret
  exact ⟨rfl, (Below.refl _ _).alloc (Nat.le_refl _) _⟩

set_option maxRecDepth 100000 in
set_option maxHeartbeats 1000000 in
theorem fits_14 (x : Int) (aF : Option Addr) (cF : Nat) (aL : Option Addr) (nL cL : Nat) (w : World) (hct : It.countB nL = false) :
    Calls Try.prog 21 #[itv 3 [] aF 0 cF aL nL cL x] w fun e w' => e = .returned (.bool false) ∧ Below w.heap.size w w' := by
  unfold itv
  have hc := fun W => mayCount_any nL W
  rw [hct] at hc
  have HC := Lib.hid hc
  clear hc hct
  go_enter Try.func21, Try.ntmps21
  go_wp2_with (go_at_call 31; refine (HC.out _).mono ?_; rintro e w1 ⟨rfl, rfl⟩)
  go_ret
  exact ⟨rfl, (Below.refl _ _).alloc (Nat.le_refl _) _⟩

set_option maxRecDepth 100000 in
set_option maxHeartbeats 1000000 in
theorem fits_15 (x : Int) (aF : Option Addr) (cF : Nat) (aL : Option Addr) (nL cL : Nat) (w : World) (hct : It.countB nL = true) :
    Calls Try.prog 21 #[itv 3 [] aF 0 cF aL nL cL x] w fun e w' => e = .returned (.bool true) ∧ Below w.heap.size w w' := by
  unfold itv
  have hc := fun W => mayCount_any nL W
  rw [hct] at hc
  have HC := Lib.hid hc
  clear hc hct
  go_enter Try.func21, Try.ntmps21
  go_wp2_with (go_at_call 31; refine (HC.out _).mono ?_; rintro e w1 ⟨rfl, rfl⟩)
  go_ret
  exact ⟨rfl, (Below.refl _ _).alloc (Nat.le_refl _) _⟩

set_option maxRecDepth 100000 in
set_option maxHeartbeats 1000000 in
theorem fits_16 (x : Int) (aF : Option Addr) (cF : Nat) (aL : Option Addr) (nL cL : Nat) (w : World) (hct : It.countB nL = false) :
    Calls Try.prog 21 #[itv 4 [] aF 0 cF aL nL cL x] w fun e w' => e = .returned (.bool false) ∧ Below w.heap.size w w' := by
  unfold itv
  have hc := fun W => mayCount_any nL W
  rw [hct] at hc
  have HC := Lib.hid hc
  clear hc hct
  go_enter Try.func21, Try.ntmps21
  go_wp2_with (go_at_call 31; refine (HC.out _).mono ?_; rintro e w1 ⟨rfl, rfl⟩)
  go_ret
  exact ⟨rfl, (Below.refl _ _).alloc (Nat.le_refl _) _⟩

set_option maxRecDepth 100000 in
set_option maxHeartbeats 1000000 in
theorem fits_17 (x : Int) (aF : Option Addr) (cF : Nat) (aL : Option Addr) (cL : Nat) (ws : List (List UInt8)) (w : World) (hL : Wds w aL cL ws) (hlen : ws.length ≤ 1000000) (hct : It.countB ws.length = true) (hrs : It.risB ws = false) :
    Calls Try.prog 21 #[itv 4 [] aF 0 cF aL ws.length cL x] w fun e w' => e = .returned (.bool false) ∧ Below w.heap.size w w' := by
  unfold itv
  have hc := fun W => mayCount_any ws.length W
  rw [hct] at hc
  have HC := Lib.hid hc
  clear hc hct
  have hn1 : Boxed ((w.alloc (itc 4 [] aF 0 cF aL ws.length cL x)).alloc (.cells #[.slice aL ws.length cL] 23)) (w.heap.size + 1) 23 (.slice aL ws.length cL) := by
    have := Boxed.new (w.alloc (itc 4 [] aF 0 cF aL ws.length cL x)) 23 (.slice aL ws.length cL)
    rwa [World.size_alloc] at this
  have hn2 := rises_values (w.heap.size + 1) aL cL ws _ hn1 (hL.later (((Below.refl _ w).alloc (Nat.le_refl _) (itc 4 [] aF 0 cF aL ws.length cL x)).alloc (by simp) (.cells #[.slice aL ws.length cL] 23))) hlen
  rw [hrs] at hn2
  unfold itc at hn2
  have HN := Lib.hid hn2
  clear hn1 hn2 hrs hL
  have hf0 : ws.length ≤ 1000000 := hlen
  clear hlen
  generalize ws.length = nL at *
  go_enter Try.func21, Try.ntmps21
  go_wp2_with fail
  refine (HC.out _).mono ?_
  rintro e w1 ⟨rfl, rfl⟩
  go_wp2_with fail
  refine (values_mk _ _ _ _).mono ?_
  rintro e w1 ⟨rfl, rfl⟩
  go_wp2_with fail
  refine HN.out.mono ?_
  rintro e w1 ⟨rfl, hb⟩
  have HB := Lib.hid hb
  obtain ⟨hcl, -⟩ := bcell hb
  have hsz := hb.size
  clear hb
  simp only [World.size_alloc] at hcl hsz
  go_wp2
  go_ret
  exact ⟨rfl, ((((Below.refl _ w).alloc (Nat.le_refl _) _).alloc (by simp) _).trans (HB.out.mono (by simp; omega)))⟩

set_option maxRecDepth 100000 in
set_option maxHeartbeats 1000000 in
theorem fits_18 (x : Int) (aF : Option Addr) (cF : Nat) (aL : Option Addr) (cL : Nat) (ws : List (List UInt8)) (w : World) (hL : Wds w aL cL ws) (hlen : ws.length ≤ 1000000) (hct : It.countB ws.length = true) (hrs : It.risB ws = true) :
    Calls Try.prog 21 #[itv 4 [] aF 0 cF aL ws.length cL x] w fun e w' => e = .returned (.bool true) ∧ Below w.heap.size w w' := by
  unfold itv
  have hc := fun W => mayCount_any ws.length W
  rw [hct] at hc
  have HC := Lib.hid hc
  clear hc hct
  have hn1 : Boxed ((w.alloc (itc 4 [] aF 0 cF aL ws.length cL x)).alloc (.cells #[.slice aL ws.length cL] 23)) (w.heap.size + 1) 23 (.slice aL ws.length cL) := by
    have := Boxed.new (w.alloc (itc 4 [] aF 0 cF aL ws.length cL x)) 23 (.slice aL ws.length cL)
    rwa [World.size_alloc] at this
  have hn2 := rises_values (w.heap.size + 1) aL cL ws _ hn1 (hL.later (((Below.refl _ w).alloc (Nat.le_refl _) (itc 4 [] aF 0 cF aL ws.length cL x)).alloc (by simp) (.cells #[.slice aL ws.length cL] 23))) hlen
  rw [hrs] at hn2
  unfold itc at hn2
  have HN := Lib.hid hn2
  clear hn1 hn2 hrs hL
  have hf0 : ws.length ≤ 1000000 := hlen
  clear hlen
  generalize ws.length = nL at *
  go_enter Try.func21, Try.ntmps21
  go_wp2_with fail
  refine (HC.out _).mono ?_
  rintro e w1 ⟨rfl, rfl⟩
  go_wp2_with fail
  refine (values_mk _ _ _ _).mono ?_
  rintro e w1 ⟨rfl, rfl⟩
  go_wp2_with fail
  refine HN.out.mono ?_
  rintro e w1 ⟨rfl, hb⟩
  have HB := Lib.hid hb
  obtain ⟨hcl, -⟩ := bcell hb
  have hsz := hb.size
  clear hb
  simp only [World.size_alloc] at hcl hsz
  go_wp2
  go_ret
  exact ⟨rfl, ((((Below.refl _ w).alloc (Nat.le_refl _) _).alloc (by simp) _).trans (HB.out.mono (by simp; omega)))⟩

theorem fits_any (k x : Int) (s : List UInt8) (aF : Option Addr) (cF : Nat) (fs : List (List UInt8 × List UInt8)) (aL : Option Addr) (cL : Nat) (ws : List (List UInt8)) (w : World) (hF : Fds w aF cF fs) (hL : Wds w aL cL ws) (hlF : fs.length ≤ 1000000) (hlL : ws.length ≤ 1000000) :
    Calls Try.prog 21 #[itv k s aF fs.length cF aL ws.length cL x] w fun e w' => e = .returned (.bool (It.fitsB ⟨k, s, fs, ws, x⟩)) ∧ Below w.heap.size w w' := by
  by_cases h1 : k = 1
  · subst h1
    by_cases hf : fs.length = 0
    · by_cases hl : ws.length = 0
      · rw [show It.fitsB ⟨1, s, fs, ws, x⟩ = true by simp [It.fitsB, hf, hl], hf, hl]
        exact fits_1 x s aF cF aL cL w
      · rw [show It.fitsB ⟨1, s, fs, ws, x⟩ = false by simp [It.fitsB, hf, hl], hf]
        exact fits_2 x s aF cF aL _ cL w hl
    · rw [show It.fitsB ⟨1, s, fs, ws, x⟩ = false by simp [It.fitsB, hf]]
      exact fits_3 x s aF _ cF aL _ cL w hf
  by_cases h2 : k = 2
  · subst h2
    by_cases hs : s = []
    · subst hs
      cases hct : It.countB fs.length with
      | false =>
        rw [show It.fitsB ⟨2, [], fs, ws, x⟩ = false by simp [It.fitsB, hct]]
        exact fits_8 x aF _ cF aL _ cL w hct
      | true =>
        cases hrs : It.risB (fs.map (·.1)) with
        | false =>
          rw [show It.fitsB ⟨2, [], fs, ws, x⟩ = false by simp [It.fitsB, It.names, hrs]]
          exact fits_9 x aF cF fs aL _ cL w hF hlF hct hrs
        | true =>
          by_cases hl : ws.length = 0
          · rw [show It.fitsB ⟨2, [], fs, ws, x⟩ = true by simp [It.fitsB, It.names, hrs, hct, hl], hl]
            exact fits_11 x aF cF fs aL cL w hF hlF hct hrs
          · rw [show It.fitsB ⟨2, [], fs, ws, x⟩ = false by simp [It.fitsB, hl]]
            exact fits_10 x aF cF fs aL _ cL w hF hlF hct hrs hl
    · rw [show It.fitsB ⟨2, s, fs, ws, x⟩ = false by simp [It.fitsB, hs]]
      exact fits_4 x s aF _ cF aL _ cL w hs
  by_cases h3 : k = 3
  · subst h3
    by_cases hs : s = []
    · subst hs
      by_cases hf : fs.length = 0
      · rw [hf]
        cases hct : It.countB ws.length with
        | false =>
          rw [show It.fitsB ⟨3, [], fs, ws, x⟩ = false by simp [It.fitsB, hct]]
          exact fits_14 x aF cF aL _ cL w hct
        | true =>
          rw [show It.fitsB ⟨3, [], fs, ws, x⟩ = true by simp [It.fitsB, hct, hf]]
          exact fits_15 x aF cF aL _ cL w hct
      · rw [show It.fitsB ⟨3, [], fs, ws, x⟩ = false by simp [It.fitsB, hf]]
        exact fits_12 x aF _ cF aL _ cL w hf
    · rw [show It.fitsB ⟨3, s, fs, ws, x⟩ = false by simp [It.fitsB, hs]]
      exact fits_5 x s aF _ cF aL _ cL w hs
  by_cases h4 : k = 4
  · subst h4
    by_cases hs : s = []
    · subst hs
      by_cases hf : fs.length = 0
      · rw [hf]
        cases hct : It.countB ws.length with
        | false =>
          rw [show It.fitsB ⟨4, [], fs, ws, x⟩ = false by simp [It.fitsB, hct]]
          exact fits_16 x aF cF aL _ cL w hct
        | true =>
          cases hrs : It.risB ws with
          | false =>
            rw [show It.fitsB ⟨4, [], fs, ws, x⟩ = false by simp [It.fitsB, hrs]]
            exact fits_17 x aF cF aL cL ws w hL hlL hct hrs
          | true =>
            rw [show It.fitsB ⟨4, [], fs, ws, x⟩ = true by simp [It.fitsB, hrs, hct, hf]]
            exact fits_18 x aF cF aL cL ws w hL hlL hct hrs
      · rw [show It.fitsB ⟨4, [], fs, ws, x⟩ = false by simp [It.fitsB, hf]]
        exact fits_13 x aF _ cF aL _ cL w hf
    · rw [show It.fitsB ⟨4, s, fs, ws, x⟩ = false by simp [It.fitsB, hs]]
      exact fits_6 x s aF _ cF aL _ cL w hs
  · rw [show It.fitsB ⟨k, s, fs, ws, x⟩ = false by simp [It.fitsB, h1, h2, h3, h4]]
    exact fits_7 k x s aF _ cF aL _ cL w h1 h2 h3 h4

end Go.Proofs.Ytdnonginlbjcoaa
