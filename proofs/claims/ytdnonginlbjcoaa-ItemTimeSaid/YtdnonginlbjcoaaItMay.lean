/- The contract of item.May. -/
import Derived.Test.YtdnonginlbjcoaaItFits
namespace Go.Proofs.Ytdnonginlbjcoaa
open Go.RowKit Go.Shelf
attribute [local go_sem] Oper.semAt_some

theorem texts_mk (k : Int) (s : List UInt8) (aF : Option Addr) (nF cF : Nat) (aL : Option Addr) (nL cL : Nat) (x : Int) (w : World) : Calls Try.prog 22 #[itv k s aF nF cF aL nL cL x] w fun e w' =>
    e = .returned (.func (.func 35) #[] #[.pointer (some ⟨w.heap.size, 0, none⟩)]) ∧ w' = w.alloc (itc k s aF nF cF aL nL cL x) := by
  unfold itv
  go_enter Try.func22, Try.ntmps22
  go_wp2
  go_ret
  exact ⟨rfl, rfl⟩

/-- May's result. -/
def MRes (w : World) (W : World) : Prop := Boxed W (w.heap.size + 1) 4 (.bool false) ∧ Below w.heap.size w W

theorem MRes.keep {w W W' : World} (h : MRes w W) {S : Nat → Prop} (hk : Keeps S W W') (hS : ∀ k, k < w.heap.size + 2 → S k) : MRes w W' :=
  ⟨hk.heap h.1 (hS _ (by omega)), h.2.trans (hk.below h.2.size fun k hk' => hS k (by omega))⟩
theorem MRes.new (w : World) (o : Obj) : MRes w ((w.alloc o).alloc (.cells #[.bool false] 4)) := by
  have k1 := Boxed.new (w.alloc o) 4 (.bool false)
  rw [World.size_alloc] at k1
  exact ⟨k1, ((Below.refl _ w).alloc (Nat.le_refl _) _).alloc (by simp) _⟩
theorem MRes.set {w W : World} (h : MRes w W) (b : Bool) : Boxed (W.setCell ⟨w.heap.size + 1, 0, none⟩ (.bool b)) (w.heap.size + 1) 4 (.bool b) ∧ Below w.heap.size w (W.setCell ⟨w.heap.size + 1, 0, none⟩ (.bool b)) :=
  ⟨Boxed.set _ h.1, h.2.setCell (p := ⟨w.heap.size + 1, 0, none⟩) (by simp) _⟩

set_option maxRecDepth 100000 in
set_option maxHeartbeats 4000000 in
theorem may_exp (k x : Int) (s : List UInt8) (aF : Option Addr) (nF cF : Nat) (aL : Option Addr) (nL cL : Nat) (w : World) (h : x < 0 ∨ 9007199254740992 < x) :
    CallsIn Fence.wide 0 Try.prog 10 #[itv k s aF nF cF aL nL cL x] w fun e W' => e = .returned (.bool false) ∧ Below w.heap.size w W' := by
  have HM := Lib.hid (MRes.new w (itc k s aF nF cF aL nL cL x))
  unfold itc at HM
  unfold itv
  refine callsIn_of_wp_marks Try.func10 rfl trivial ?_ rfl
  simp only [Try.ntmps10, List.size_toArray, List.length_cons, List.length_nil, Nat.reduceAdd, Nat.reduceSub, Array.replicate_succ, Array.replicate_zero, List.push_toArray, List.append_toArray, List.nil_append, List.cons_append]
  rcases h with h | h
  · gi_wp2
    refine ⟨trivial, ?_⟩
    gi_wp2
    exact ⟨_, results_cell rfl rfl (loadVarB _ _ _ (Boxed.cell HM.out.1)), rfl, HM.out.2⟩
  · have h0 : (0 : Int) ≤ x := by omega
    gi_wp2
    refine ⟨trivial, ?_⟩
    gi_wp2
    exact ⟨_, results_cell rfl rfl (loadVarB _ _ _ (Boxed.cell HM.out.1)), rfl, HM.out.2⟩

set_option maxRecDepth 100000 in
set_option maxHeartbeats 4000000 in
theorem may_fits (k x : Int) (s : List UInt8) (aF : Option Addr) (cF : Nat) (fs : List (List UInt8 × List UInt8)) (aL : Option Addr) (cL : Nat) (ws : List (List UInt8)) (w : World) (hF : Fds w aF cF fs) (hL : Wds w aL cL ws) (hlF : fs.length ≤ 1000000) (hlL : ws.length ≤ 1000000)
    (h0 : 0 ≤ x) (h1 : x ≤ 9007199254740992) (hf : It.fitsB ⟨k, s, fs, ws, x⟩ = false) :
    CallsIn Fence.wide 0 Try.prog 10 #[itv k s aF fs.length cF aL ws.length cL x] w fun e W' => e = .returned (.bool false) ∧ Below w.heap.size w W' := by
  have hM := MRes.new w (itc k s aF fs.length cF aL ws.length cL x)
  have hfi := (callsIn_wide (n := 0)).2 (fits_any k x s aF cF fs aL cL ws _ (hF.later hM.2) (hL.later hM.2) hlF hlL)
  rw [hf] at hfi
  unfold itc at hM hfi
  unfold itv at hfi
  have HFi := Lib.hid hfi
  have HM := Lib.hid hM
  unfold itv
  clear hf hfi hM hF hL
  generalize fs.length = nF at *
  generalize ws.length = nL at *
  refine callsIn_of_wp_marks Try.func10 rfl trivial ?_ rfl
  simp only [Try.ntmps10, List.size_toArray, List.length_cons, List.length_nil, Nat.reduceAdd, Nat.reduceSub, Array.replicate_succ, Array.replicate_zero, List.push_toArray, List.append_toArray, List.nil_append, List.cons_append]
  gi_wp2
  refine ⟨trivial, rfl, HFi.out.mono ?_⟩
  rintro e w1 ⟨rfl, hb⟩
  have hM1 : MRes w w1 := HM.out.keep (Keeps.of_below (S := fun _ => True) hb (fun k h _ => by simpa using h)) (fun _ _ => trivial)
  have HS := Lib.hid (hM1.set false)
  have b1 := hM1.1.cell
  have f1 := hM1.1.frozen
  clear hb hM1
  gi_wp2
  exact ⟨_, results_cell rfl rfl (loadVarB _ _ _ (Boxed.cell HS.out.1)), rfl, HS.out.2⟩

set_option maxRecDepth 100000 in
set_option maxHeartbeats 4000000 in
theorem may_texts (k x : Int) (s : List UInt8) (aF : Option Addr) (cF : Nat) (fs : List (List UInt8 × List UInt8)) (aL : Option Addr) (cL : Nat) (ws : List (List UInt8)) (w : World) (hF : Fds w aF cF fs) (hL : Wds w aL cL ws) (hlF : fs.length ≤ 1000000) (hlL : ws.length ≤ 1000000)
    (h0 : 0 ≤ x) (h1 : x ≤ 9007199254740992) (hf : It.fitsB ⟨k, s, fs, ws, x⟩ = true) :
    CallsIn Fence.wide 0 Try.prog 10 #[itv k s aF fs.length cF aL ws.length cL x] w fun e W' => e = .returned (.bool ((s :: (It.fieldsS fs ++ ws)).all fun t => decide (t.length ≤ 300))) ∧ Below w.heap.size w W' := by
  have hM := MRes.new w (itc k s aF fs.length cF aL ws.length cL x)
  have hfi := (callsIn_wide (n := 0)).2 (fits_any k x s aF cF fs aL cL ws _ (hF.later hM.2) (hL.later hM.2) hlF hlL)
  rw [hf] at hfi
  have hbox : ItBox ((w.alloc (itc k s aF fs.length cF aL ws.length cL x)).alloc (.cells #[.bool false] 4)) w.heap.size k s aF fs.length cF aL ws.length cL x :=
    ((Keeps.refl (fun _ => True) _).alloc _).heap (ItBox.new w k s aF fs.length cF aL ws.length cL x) trivial
  obtain ⟨tx, htx⟩ : ∃ tx, s :: (It.fieldsS fs ++ ws) = tx := ⟨_, rfl⟩
  rw [htx]
  have HTx0 := Lib.hid htx
  unfold itc at hM hfi hbox
  unfold itv at hfi
  have HFi := Lib.hid hfi
  have HM := Lib.hid hM
  have HBx := Lib.hid hbox
  have HF := Lib.hid hF
  have HL := Lib.hid hL
  unfold itv
  clear hf hfi hM hF hL hbox htx
  refine callsIn_of_wp_marks Try.func10 rfl trivial ?_ rfl
  simp only [Try.ntmps10, List.size_toArray, List.length_cons, List.length_nil, Nat.reduceAdd, Nat.reduceSub, Array.replicate_succ, Array.replicate_zero, List.push_toArray, List.append_toArray, List.nil_append, List.cons_append]
  gi_wp2
  refine ⟨trivial, rfl, HFi.out.mono ?_⟩
  rintro e w1 ⟨rfl, hb⟩
  have hM1 : MRes w w1 := HM.out.keep (Keeps.of_below (S := fun _ => True) hb (fun k h _ => by simpa using h)) (fun _ _ => trivial)
  have hbx1 : ItBox w1 w.heap.size k s aF fs.length cF aL ws.length cL x := HBx.out.later hb
  have HM1 := Lib.hid hM1
  obtain ⟨c0, c1, c2, c3, c4⟩ := hbx1.at
  have htx := fun W => (callsIn_wide (n := 0)).2 (texts_mk k s aF fs.length cF aL ws.length cL x W)
  unfold itv at htx
  have HTx := Lib.hid htx
  clear htx hbx1 hb hM1
  gi_wp2
  refine ⟨trivial, rfl, (HTx.out _).mono ?_⟩
  rintro e w2 ⟨rfl, hw2⟩
  have hM2 : MRes w w2 := by rw [hw2]; exact HM1.out.keep ((Keeps.refl (fun _ => True) w1).alloc _) (fun _ _ => trivial)
  have hbx2 : ItBox w2 w1.heap.size k s aF fs.length cF aL ws.length cL x := by rw [hw2]; exact ItBox.new w1 k s aF fs.length cF aL ws.length cL x
  obtain ⟨Dt, hDt⟩ : ∃ Dt : Nat → Prop, Dt = fun k => k = w1.heap.size ∨ k < w.heap.size := ⟨_, rfl⟩
  have hseq := texts_seq w1.heap.size k s aF cF fs aL cL ws x w2 hbx2 (HF.out.later hM2.2) (HL.out.later hM2.2) hlF hlL Dt (fun _ => False) (by rw [hDt]; exact .inl rfl) (fun b off e h => by obtain ⟨b', off', e', hb', -⟩ := HF.out.get h; rw [e] at e'; cases e'; rw [hDt]; exact .inr hb') (fun b off e h => by obtain ⟨b', off', e', hb', -⟩ := HL.out.get h; rw [e] at e'; cases e'; rw [hDt]; exact .inr hb')
  have hsz : w.heap.size + 2 ≤ w1.heap.size := by have := HM1.out.1.lt; omega
  have hs2 : w2.heap.size = w1.heap.size + 1 := by rw [hw2]; simp
  rw [HTx0.out] at hseq
  have hDn : ¬ Dt (w.heap.size + 1) := by rw [hDt]; rintro (h | h) <;> omega
  have hDlt : ∀ k, Dt k → k < w2.heap.size := by rw [hDt]; rintro k (h | h) <;> omega
  have HSeq := Lib.hid hseq
  have HM2 := Lib.hid hM2
  clear hDt hseq hM2 hbx2 hw2 c0 c1 c2 c3 c4 HTx HM1 HFi HBx HM
  generalize fs.length = nF at *
  generalize ws.length = nL at *
  gi_wp2
  refine wpIn_rangeT (gf := 35) (lb := #[.pointer (some ⟨w1.heap.size, 0, none⟩)]) rfl (enters_of Try.func35 (by kernel_rfl) rfl) HSeq.out (Below.refl _ _) hDlt (fun k h => h.elim) (fun _ => rfl)
    (fun _ pre W => (pre.all fun t => decide (t.length ≤ 300)) = true ∧ MRes w W) (fun c _ pre W => c = .ret ∧ (pre.all fun t => decide (t.length ≤ 300)) = false ∧ MRes w W) ?hI ?hIx (fun h => by cases h) ⟨rfl, HM2.out⟩
    (fun _ t a' _ => a' = { tmps := #[.agg #[.int .i64 k, .string ⟨s.toArray⟩, .slice aF nF cF, .slice aL nL cL, .int .i64 x], .pointer (some ⟨w.heap.size, 0, none⟩), .pointer (some ⟨w.heap.size + 1, 0, none⟩), .string ⟨t.toArray⟩, .pointer (some ⟨w.heap.size, 4, none⟩), .int .i64 x, .bool (decide (x < 0)), .bool (decide (x < 0)), .pointer (some ⟨w.heap.size, 4, none⟩), .int .i64 x, .bool (decide (9007199254740992 < x)), .bool (decide (x < 0) || decide (9007199254740992 < x)), .bool (decide (x < 0) || decide (9007199254740992 < x)), .agg #[.int .i64 k, .string ⟨s.toArray⟩, .slice aF nF cF, .slice aL nL cL, .int .i64 x], .bool true, .bool false, .bool (decide (x < 0) || decide (9007199254740992 < x)), .agg #[.int .i64 k, .string ⟨s.toArray⟩, .slice aF nF cF, .slice aL nL cL, .int .i64 x], .func (.func 35) #[] #[.pointer (some ⟨w1.heap.size, 0, none⟩)], .string ⟨t.toArray⟩, undef, undef, undef], defers := [] })
    (fun O x a' A C h hk => h) ?assign ?body ?done ?stop
  case hI =>
    rintro O s A C ⟨h1, h2⟩ hk
    exact ⟨h1, h2.keep hk fun k hk' => ⟨id, .inl (by omega)⟩⟩
  case hIx =>
    rintro c O s A C ⟨h0, h1, h2⟩ hk
    exact ⟨h0, h1, h2.keep hk fun k hk' => ⟨id, .inl (by omega)⟩⟩
  case assign =>
    intro O pre t A K hO hA hi hK
    have HK := Lib.hid hK
    have HI := Lib.hid hi
    clear hK hi
    unfold encW
    gi_wp2
    exact HK.out _ _ (Keeps.refl _ _) HI.out rfl
  case body =>
    rintro O pre t a' A hO hA ⟨r, hr⟩ ⟨hp, hm⟩ rfl hlen
    by_cases hb : t.length ≤ 300
    · have hb1 : (t.length : Int) ≤ 300 := by omega
      have HQ : Hid (((pre ++ [t]).all fun t => decide (t.length ≤ 300)) = true) := Lib.hid (by rw [List.all_append, hp]; simp [hb])
      clear hb hp
      gi_wp2
      exact ⟨Keeps.refl _ _, O, ⟨fun j hj => ⟨(hO j hj).2, .inl hj⟩, HQ.out, hm⟩⟩
    · have hb1 : 300 < (t.length : Int) := by omega
      have HQ : Hid (((pre ++ [t]).all fun t => decide (t.length ≤ 300)) = false) := Lib.hid (by rw [List.all_append, hp]; simp; omega)
      have HM3 := Lib.hid hm
      have c1 := hm.1.cell
      have f1 := hm.1.frozen
      clear hb hp hm
      gi_wp2
      have nS : ¬ RoundS Dt (fun _ => False) w2.heap.size O (w.heap.size + 1) := by
        rintro (h | h | h)
        · exact hDn h
        · exact h
        · omega
      have hk : Keeps (RoundS Dt (fun _ => False) w2.heap.size O) A (A.setCell ⟨w.heap.size + 1, 0, none⟩ (.bool false)) := (Keeps.refl _ _).setCell (p := ⟨w.heap.size + 1, 0, none⟩) (.inr nS) _
      exact ⟨hk, O, ⟨fun j hj => ⟨Nat.lt_of_lt_of_le (hO j hj).2 hk.size, .inl hj⟩, rfl, HQ.out, HM3.out.set false⟩⟩
  case done =>
    rintro O D xs A hD hDs hO - rfl ⟨hp, hm⟩ hDd
    have b1 := hm.1.cell
    have f1 := hm.1.frozen
    obtain ⟨hB, hE⟩ := hm.set true
    have hk : Keeps (fun k => k ≠ w.heap.size + 1) A (A.setCell ⟨w.heap.size + 1, 0, none⟩ (.bool true)) := (Keeps.refl _ _).setCell (.inr (by simp)) _
    have hd2 := hk.heap hDd (by omega)
    have HE := Lib.hid (And.intro hE (And.intro hd2 hB))
    have HP := Lib.hid hp
    clear hE hk hd2 hB hp hm
    gi_wp2
    obtain ⟨hE, hd2, hB⟩ := HE.out
    refine ⟨by simp, .inl ⟨_, _, rfl, run_takeDeferred hd2, ?_⟩⟩
    have hk3 : Keeps (fun k => k ≠ D) (A.setCell ⟨w.heap.size + 1, 0, none⟩ (.bool true)) ((A.setCell ⟨w.heap.size + 1, 0, none⟩ (.bool true)).putObj D (.deferred none)) := (Keeps.refl _ _).putObj (fun h => h rfl) _
    refine ⟨_, results_cell rfl rfl (loadVarB _ _ _ (Boxed.cell (hk3.heap hB (by omega)))), by rw [HP.out], hE.trans (hk3.below hE.size fun k hk => by omega)⟩
  case stop =>
    rintro O D c pre A hD hDs hO - hSp ⟨rfl, hp, hm⟩ hDd
    have b1 := hm.1.cell
    have HP : Hid ((tx.all fun t => decide (t.length ≤ 300)) = false) := Lib.hid (by
      obtain ⟨r, rfl⟩ := hSp
      rw [List.all_append, hp]
      rfl)
    clear hp
    gi_wp2
    refine ⟨by simp, .inl ⟨_, _, rfl, run_takeDeferred hDd, ?_⟩⟩
    have hk3 : Keeps (fun k => k ≠ D) A (A.putObj D (.deferred none)) := (Keeps.refl _ _).putObj (fun h => h rfl) _
    refine ⟨_, results_cell rfl rfl (loadVarB _ _ _ (Boxed.cell (hk3.heap hm.1 (by omega)))), by rw [HP.out], hm.2.trans (hk3.below hm.2.size fun k hk => by omega)⟩

theorem may_any (k x : Int) (s : List UInt8) (aF : Option Addr) (cF : Nat) (fs : List (List UInt8 × List UInt8)) (aL : Option Addr) (cL : Nat) (ws : List (List UInt8)) (w : World) (hF : Fds w aF cF fs) (hL : Wds w aL cL ws) (hlF : fs.length ≤ 1000000) (hlL : ws.length ≤ 1000000) :
    Calls Try.prog 10 #[itv k s aF fs.length cF aL ws.length cL x] w fun e w' => e = .returned (.bool (It.mayB ⟨k, s, fs, ws, x⟩)) ∧ Below w.heap.size w w' := by
  refine (callsIn_wide (n := 0)).1 ?_
  by_cases hx : x < 0 ∨ 9007199254740992 < x
  · rw [show It.mayB ⟨k, s, fs, ws, x⟩ = false by rcases hx with h | h <;> simp [It.mayB] <;> omega]
    exact may_exp k x s aF _ cF aL _ cL w hx
  · have h0 : 0 ≤ x := by omega
    have h1 : x ≤ 9007199254740992 := by omega
    cases hf : It.fitsB ⟨k, s, fs, ws, x⟩ with
    | false =>
      rw [show It.mayB ⟨k, s, fs, ws, x⟩ = false by simp [It.mayB, hf]]
      exact may_fits k x s aF cF fs aL cL ws w hF hL hlF hlL h0 h1 hf
    | true =>
      rw [show It.mayB ⟨k, s, fs, ws, x⟩ = (s :: (It.fieldsS fs ++ ws)).all fun t => decide (t.length ≤ 300) by simp only [It.mayB, hf, It.textsS, decide_eq_true h0, decide_eq_true h1, Bool.true_and]]
      exact may_texts k x s aF cF fs aL cL ws w hF hL hlF hlL h0 h1 hf

end Go.Proofs.Ytdnonginlbjcoaa
