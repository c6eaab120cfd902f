/- The contract of rises: whether each text that an iterator hands out is greater than the one before it. -/
import Derived.Test.YtdnonginlbjcoaaItSeq
import Derived.RegionIn
import Derived.Sort.Walk0
namespace Go.Proofs.Ytdnonginlbjcoaa
open Go.RowKit Go.Shelf
attribute [local go_sem] Oper.semAt_some

/-- rises' own variables: the result, the last one, whether there was one. -/
def RInv (w : World) (pre : List (List UInt8)) (W : World) : Prop :=
  Boxed W w.heap.size 4 (.bool false) ∧ Boxed W (w.heap.size + 1) 9 (.string ⟨(It.lastS pre).toArray⟩) ∧ Boxed W (w.heap.size + 2) 4 (.bool (!pre.isEmpty)) ∧ Below w.heap.size w W

theorem RInv.keep {w W W' : World} {pre : List (List UInt8)} (h : RInv w pre W) {S : Nat → Prop} (hk : Keeps S W W') (hS : ∀ k, k < w.heap.size + 3 → S k) : RInv w pre W' := by
  obtain ⟨h1, h2, h3, h4⟩ := h
  exact ⟨hk.heap h1 (hS _ (by omega)), hk.heap h2 (hS _ (by omega)), hk.heap h3 (hS _ (by omega)), h4.trans (hk.below h4.size fun k hk' => hS k (by omega))⟩

set_option maxRecDepth 100000 in
set_option maxHeartbeats 4000000 in
theorem rises_any (gf : Nat) (lb : Array Value) (eg : ∀ args w, (callFunc gf args).run Try.prog w = .ok (.enter gf args) w) (ws : List (List UInt8)) (Dt : Nat → Prop) (N : Nat) (w0 w : World)
    (hseq : SeqT true Try.prog gf lb encW Dt (fun _ => False) (fun ys => ys = ws) (fun p => p <+: ws) N w0) (hw : Below w0.heap.size w0 w) (hDt : ∀ k, Dt k → k < w.heap.size) :
    CallsIn Fence.wide 0 Try.prog 32 #[.func (.func gf) #[] lb] w fun e W' => e = .returned (.bool (It.risB ws)) ∧ Below w.heap.size w W' := by
  refine callsIn_of_wp_marks Try.func32 rfl trivial ?_ rfl
  simp only [Try.ntmps32, List.size_toArray, List.length_cons, List.length_nil, Nat.reduceAdd, Nat.reduceSub, Array.replicate_succ, Array.replicate_zero, List.push_toArray, List.append_toArray, List.nil_append, List.cons_append]
  gi_wp2
  obtain ⟨w2, hw2⟩ : ∃ w2, ((w.alloc (.cells #[.bool false] 4)).alloc (.cells #[.string ⟨#[]⟩] 9)).alloc (.cells #[.bool false] 4) = w2 := ⟨_, rfl⟩
  have hs2 : w2.heap.size = w.heap.size + 3 := by rw [← hw2]; simp
  have hR0 : RInv w [] w2 := by
    rw [← hw2]
    have k1 := Boxed.new w 4 (.bool false)
    have k2 := Boxed.new (w.alloc (.cells #[.bool false] 4)) 9 (.string ⟨#[]⟩)
    have k3 := Boxed.new ((w.alloc (.cells #[.bool false] 4)).alloc (.cells #[.string ⟨#[]⟩] 9)) 4 (.bool false)
    rw [World.size_alloc] at k2
    rw [World.size_alloc, World.size_alloc] at k3
    exact ⟨(k1.alloc _).alloc _, k2.alloc _, k3, (((Below.refl _ w).alloc (Nat.le_refl _) _).alloc (by simp) _).alloc (by simp; omega) _⟩
  have hBw := hR0.2.2.2
  rw [hw2]
  clear hw2
  refine wpIn_rangeT (gf := gf) (lb := lb) rfl eg hseq (hw.trans (hBw.mono hw.size)) (fun k h => by have := hDt k h; omega) (fun k h => h.elim) (fun _ => rfl)
    (fun _ pre W => It.risB pre = true ∧ RInv w pre W) (fun c _ pre W => c = .ret ∧ It.risB pre = false ∧ Boxed W w.heap.size 4 (.bool false) ∧ Below w.heap.size w W) ?hI ?hIx (fun h => by cases h) ⟨rfl, hR0⟩
    (fun _ x a' _ => a' = { tmps := #[.func (.func gf) #[] lb, undef, .pointer (some ⟨w.heap.size, 0, none⟩), .pointer (some ⟨w.heap.size + 1, 0, none⟩), .pointer (some ⟨w.heap.size + 1 + 1, 0, none⟩), .string ⟨x.toArray⟩, .func (.func gf) #[] lb, .string ⟨x.toArray⟩, undef, undef, undef, undef, undef, undef, undef], defers := [] })
    (fun O x a' A C h hk => h) ?assign ?body ?done ?stop
  case hI =>
    rintro O s A C ⟨h1, h2⟩ hk
    exact ⟨h1, h2.keep hk fun k hk' => ⟨id, .inl (by omega)⟩⟩
  case hIx =>
    rintro c O s A C ⟨h0, h1, h2, h3⟩ hk
    exact ⟨h0, h1, hk.heap h2 ⟨id, .inl (by omega)⟩, h3.trans (hk.below h3.size fun k hk' => ⟨id, .inl (by omega)⟩)⟩
  case assign =>
    intro O pre x A K hO hA hi hK
    have HK := Lib.hid hK
    have HI := Lib.hid hi
    clear hK hi
    unfold encW
    gi_wp2
    exact HK.out _ _ (Keeps.refl _ _) HI.out rfl
  case body =>
    rintro O pre x a' A hO hA ⟨r, hr⟩ ⟨hp, h1, h2, h3, h4⟩ rfl hlen
    have b2 := h2.cell
    have f2 := h2.frozen
    have f3 := h3.frozen
    have HS := Lib.hid (It.risB_snoc pre x)
    have HP := Lib.hid hp
    have HR : Hid (RInv w pre A) := Lib.hid ⟨h1, h2, h3, h4⟩
    have hgo : It.risB (pre ++ [x]) = true → ∀ aa, ownPostT (RoundS Dt (fun _ => False) w2.heap.size O) O (fun _ pre W => It.risB pre = true ∧ RInv w pre W) (fun c _ pre W => c = .ret ∧ It.risB pre = false ∧ Boxed W w.heap.size 4 (.bool false) ∧ Below w.heap.size w W) (pre ++ [x]) A .normal aa
        ((A.setCell ⟨w.heap.size + 1, 0, none⟩ (.string ⟨x.toArray⟩)).setCell ⟨w.heap.size + 1 + 1, 0, none⟩ (.bool true)) := by
      intro hq aa
      obtain ⟨h1, h2, h3, h4⟩ := HR.out
      have nS : ∀ B, w.heap.size ≤ B → B < w.heap.size + 3 → ¬ RoundS Dt (fun _ => False) w2.heap.size O B := by
        rintro B hB0 hB (h | h | h)
        · have := hDt _ h; omega
        · exact h
        · omega
      have hk : Keeps (RoundS Dt (fun _ => False) w2.heap.size O) A ((A.setCell ⟨w.heap.size + 1, 0, none⟩ (.string ⟨x.toArray⟩)).setCell ⟨w.heap.size + 1 + 1, 0, none⟩ (.bool true)) :=
        ((Keeps.refl _ _).setCell (p := ⟨w.heap.size + 1, 0, none⟩) (.inr (nS _ (by simp) (by simp))) _).setCell (p := ⟨w.heap.size + 1 + 1, 0, none⟩) (.inr (nS _ (by simp; omega) (by simp))) _
      have hk2 : Keeps (fun k => k ≠ w.heap.size + 1 + 1) (A.setCell ⟨w.heap.size + 1, 0, none⟩ (.string ⟨x.toArray⟩)) ((A.setCell ⟨w.heap.size + 1, 0, none⟩ (.string ⟨x.toArray⟩)).setCell ⟨w.heap.size + 1 + 1, 0, none⟩ (.bool true)) := (Keeps.refl _ _).setCell (.inr (by simp)) _
      have hk1 : Keeps (fun k => k ≠ w.heap.size + 1) A (A.setCell ⟨w.heap.size + 1, 0, none⟩ (.string ⟨x.toArray⟩)) := (Keeps.refl _ _).setCell (.inr (by simp)) _
      refine ⟨hk, O, ⟨fun j hj => ⟨Nat.lt_of_lt_of_le (hO j hj).2 hk.size, .inl hj⟩, hq, hk2.heap (hk1.heap h1 (by omega)) (by omega), ?_, ?_, ?_⟩⟩
      · rw [It.lastS_snoc]
        exact hk2.heap (h2.set _) (by omega)
      · have he : (!(pre ++ [x]).isEmpty) = true := by simp
        rw [he]
        exact Boxed.set (.bool true) (hk1.heap h3 (by omega))
      · exact (h4.trans (hk1.below h4.size fun k hk => by omega)).trans (hk2.below (Nat.le_trans h4.size hk1.size) fun k hk => by omega)
    have HG := Lib.hid hgo
    clear hgo h1 h2 hp
    by_cases h0 : pre = []
    · have b3 : A.cell? ⟨w.heap.size + 1 + 1, 0, none⟩ = some (.bool false) := by have := h3.cell; rw [h0] at this; exact this
      have HQ : Hid (It.risB (pre ++ [x]) = true) := Lib.hid (by rw [h0]; rfl)
      clear h0 h3
      generalize It.lastS pre = y at b2
      gi_wp2
      exact HG.out HQ.out _
    · have b3 : A.cell? ⟨w.heap.size + 1 + 1, 0, none⟩ = some (.bool true) := by have := h3.cell; rw [List.isEmpty_eq_false_iff.2 h0] at this; exact this
      have HQ : Hid (It.risB (pre ++ [x]) = decide (It.lastS pre < x)) := Lib.hid (by rw [HS.out, HP.out, List.isEmpty_eq_false_iff.2 h0]; simp)
      clear h0 h3
      generalize It.lastS pre = y at b2 HQ
      by_cases hlt : y < x
      · have HQ2 : Hid (It.risB (pre ++ [x]) = true) := Lib.hid (by rw [HQ.out, decide_eq_true hlt])
        have e1 : Op.bytesLess x y = false := by rw [bytesLess_eq, decide_eq_false_iff_not]; exact List.lt_asymm hlt
        have e2 : (x == y) = false := beq_eq_false_iff_ne.2 (by rintro rfl; exact List.lt_irrefl _ hlt)
        clear hlt HQ
        gi_wp2
        exact HG.out HQ2.out _
      · have HQ2 : Hid (It.risB (pre ++ [x]) = false) := Lib.hid (by rw [HQ.out, decide_eq_false hlt])
        obtain ⟨h1, -, -, h4'⟩ := HR.out
        have b1 := h1.cell
        have f1 := h1.frozen
        have hend : ∀ aa, ownPostT (RoundS Dt (fun _ => False) w2.heap.size O) O (fun _ pre W => It.risB pre = true ∧ RInv w pre W) (fun c _ pre W => c = .ret ∧ It.risB pre = false ∧ Boxed W w.heap.size 4 (.bool false) ∧ Below w.heap.size w W) (pre ++ [x]) A .ret aa
            (A.setCell ⟨w.heap.size, 0, none⟩ (.bool false)) := by
          intro aa
          have nS : ¬ RoundS Dt (fun _ => False) w2.heap.size O w.heap.size := by
            rintro (h | h | h)
            · have := hDt _ h; omega
            · exact h
            · omega
          have hk : Keeps (RoundS Dt (fun _ => False) w2.heap.size O) A (A.setCell ⟨w.heap.size, 0, none⟩ (.bool false)) := (Keeps.refl _ _).setCell (p := ⟨w.heap.size, 0, none⟩) (.inr nS) _
          exact ⟨hk, O, ⟨fun j hj => ⟨Nat.lt_of_lt_of_le (hO j hj).2 hk.size, .inl hj⟩, rfl, HQ2.out, h1.set _, h4'.setCell (p := ⟨w.heap.size, 0, none⟩) (Nat.le_refl _) _⟩⟩
        have HE := Lib.hid hend
        clear hend h1 h4' HQ
        by_cases hxy : x = y
        · have e1 : Op.bytesLess x y = false := by rw [bytesLess_eq, decide_eq_false_iff_not, hxy]; exact List.lt_irrefl _
          have e2 : (x == y) = true := by rw [beq_iff_eq]; exact hxy
          clear hlt hxy
          gi_wp2
          exact HE.out _
        · have e1 : Op.bytesLess x y = true := by
            rw [bytesLess_eq, decide_eq_true_eq]
            rcases Std.le_iff_lt_or_eq.1 (show x ≤ y from hlt) with h | h
            · exact h
            · exact (hxy h).elim
          clear hlt hxy
          gi_wp2
          exact HE.out _
  case done =>
    rintro O D xs A hD hDs hO - rfl ⟨hp, h1, h2, h3, h4⟩ hDd
    have b1 := h1.cell
    have f1 := h1.frozen
    have hE : Below w.heap.size w (A.setCell ⟨w.heap.size, 0, none⟩ (.bool true)) := h4.setCell (p := ⟨w.heap.size, 0, none⟩) (Nat.le_refl _) _
    have hk : Keeps (fun k => k ≠ w.heap.size) A (A.setCell ⟨w.heap.size, 0, none⟩ (.bool true)) := (Keeps.refl _ _).setCell (.inr (by simp)) _
    have hd2 := hk.heap hDd (by omega)
    have hB := Boxed.set (.bool true) h1
    have HE := Lib.hid (And.intro hE (And.intro hd2 hB))
    have HP := Lib.hid hp
    clear hE hk hd2 hB hp
    gi_wp2
    obtain ⟨hE, hd2, hB⟩ := HE.out
    refine ⟨by simp, .inl ⟨_, _, rfl, run_takeDeferred hd2, ?_⟩⟩
    have hk3 : Keeps (fun k => k ≠ D) (A.setCell ⟨w.heap.size, 0, none⟩ (.bool true)) ((A.setCell ⟨w.heap.size, 0, none⟩ (.bool true)).putObj D (.deferred none)) := (Keeps.refl _ _).putObj (fun h => h rfl) _
    refine ⟨_, results_cell rfl rfl (loadVarB _ _ _ (Boxed.cell (hk3.heap hB (by omega)))), by rw [HP.out], hE.trans (hk3.below hE.size fun k hk => by omega)⟩
  case stop =>
    rintro O D c pre A hD hDs hO - hSp ⟨rfl, hp, h1, h4⟩ hDd
    have b1 := h1.cell
    have HP := Lib.hid (It.risB_prefix hSp hp)
    clear hp
    gi_wp2
    refine ⟨by simp, .inl ⟨_, _, rfl, run_takeDeferred hDd, ?_⟩⟩
    have hk3 : Keeps (fun k => k ≠ D) A (A.putObj D (.deferred none)) := (Keeps.refl _ _).putObj (fun h => h rfl) _
    refine ⟨_, results_cell rfl rfl (loadVarB _ _ _ (Boxed.cell (hk3.heap h1 (by omega)))), by rw [HP.out], h4.trans (hk3.below h4.size fun k hk => by omega)⟩
end Go.Proofs.Ytdnonginlbjcoaa
