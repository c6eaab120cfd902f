/- A region that draws its order in a function under the wide fence (an iterator's body): its loads are taken first where a condition on the world holds throughout; it may call, and yield. No program in it. The contracts of the program's keys, of the iterator that it hands out, and of In (11.1). The contract of the program's In (11.1). -/
import Derived.Test.YtkmdpmkjcfccnaaProg
import Derived.OrdersHeld
import Derived.OrdersIn
import Derived.Deep.RegionHeld
import Derived.Test.YtkmdpmkjcfccnaaDbIn
import Derived.Test.YtkmdpmkjcfccnaaSpcFind
import Derived.Test.YtkmdpmkjcfccnaaSlotHashOf
import Derived.Test.YtkmdpmkjcfccnaaRoundWp
import Derived.Test.YtkmdpmkjcfccnaaSeqB
import Derived.Test.YtkmdpmkjcfccnaaItClone
import Derived.Deep.AppendLies
import Derived.Maps.OwnIn
namespace Go.Proofs.Ytkmdpmkjcfccnaa
set_option linter.unusedVariables false
section
variable {n : Nat} {P : Program} {ops : Array Oper} {Q : Exit → Act → World → Prop} {md : Region.Mode} {S : World → Prop}

theorem yieldsIf_wpOpIn {i : Nat} {o : Oper} {v : Value} {a : Act} (hi : ops[i]? = some o) (hy : YieldsIf P ops S o v a)
    {K : Act → World → Prop} {w : World} (hS : S w) (h : K (a.put o.dst v) w) : wpOpIn Fence.wide n P ops Q i K a w := by
  unfold Go.wpOpIn
  simp only [hi]
  rcases hy with ⟨hw, hv⟩ | ⟨hw, rfl⟩
  · simp only [hw, if_true, Oper.wpIn, show Fence.wide.round = none from rfl, Oper.semAt_none, hv w hS, Oper.uponIn]; exact ⟨fun _ _ => trivial, h⟩
  · simp only [hw, Bool.false_eq_true, if_false]; exact ⟨fun _ _ => trivial, h⟩

theorem wpOpIn_putIf {j : Nat} {oi oj : Oper} {v : Value} (hj : ops[j]? = some oj) (hap : oi.apart ops oj = true)
    (hsi : ∀ cs b, oi.op ≠ .select cs b) (hsj : ∀ cs b, oj.op ≠ .select cs b)
    (hQ : ∀ c a w, Q (.panic c) (a.put oi.dst v) w → Q (.panic c) a w) {K : Act → World → Prop} {a : Act} {w : World}
    (hy : YieldsIf P ops S oi v a) (h : wpOpIn Fence.wide n P ops Q j K (a.put oi.dst v) w) :
    wpOpIn Fence.wide n P ops Q j (fun a' w' => YieldsIf P ops S oi v a' ∧ K (a'.put oi.dst v) w') a w := by
  obtain ⟨h1, h2, h3⟩ := Oper.apart_spec hap
  have keep : ∀ (a : Act), YieldsIf P ops S oi v a → ∀ u, YieldsIf P ops S oi v (a.put oj.dst u) := fun a hy u =>
    hy.of_same (execOp_put oi hsi a oj.dst u h3) (wanted_put oi a oj.dst u h3)
  have keepD : ∀ d, YieldsIf P ops S oi v { a with defers := d :: a.defers } := fun d => hy.of_same rfl rfl
  have hro : Fence.wide.round = none := rfl
  unfold wpOpIn at *
  simp only [hj] at *
  rw [wanted_put oj a oi.dst v h1, about_put oj w a oi.dst v h1] at h
  split
  · rename_i hw
    simp only [hw, if_true] at h
    unfold Oper.wpIn at *
    rw [about_put oj w a oi.dst v h1] at h
    refine ⟨h.1, ?_⟩
    have h := h.2
    rw [hro, Oper.semAt_none, execOp_put oj hsj a oi.dst v h1] at h
    rw [hro, Oper.semAt_none]
    generalize (execOp a.eval oj).run P w = r at *
    cases r with
    | ok x w' =>
      cases x <;> simp only [Oper.uponIn] at h ⊢
      case value u => exact ⟨keep a hy u, by rw [← Act.put_comm a v u h2]; exact h⟩
      case skip => exact ⟨keep a hy _, by rw [← Act.put_comm a v undef h2]; exact h⟩
      case defer d =>
        refine ⟨keep _ (keepD d) _, ?_⟩
        rw [← Act.put_comm _ v undef h2, ← Act.put_defers]
        exact h
      case enter f args =>
        refine ⟨h.1, CallsIn.mono h.2 fun e w'' he => ?_⟩
        cases e with
        | returned u => exact ⟨keep a hy u, by rw [← Act.put_comm a v u h2]; exact he⟩
        | panicked c => exact hQ _ _ _ he
        | outgrown => exact he
      case row row args => exact ⟨h.1, Go.RowsIn.mono h.2 fun u w'' he => ⟨keep a hy u, by rw [← Act.put_comm a v u h2]; exact he⟩⟩
      case round l f tmps assign body =>
        refine ⟨h.1, RoundIn.mono h.2 fun e w'' he => ?_⟩
        cases e with
        | returned u => exact ⟨keep a hy u, by rw [← Act.put_comm a v u h2]; exact he⟩
        | panicked c => exact hQ _ _ _ he
        | outgrown => exact he
    | halt x w' =>
      cases x <;> simp only [Oper.uponIn] at h ⊢
      case panic u => exact hQ _ _ _ h
  · rename_i hw
    simp only [hw] at h
    exact ⟨h.1, keep a hy _, by rw [← Act.put_comm a v undef h2]; exact h.2⟩

/-- whatever order is picked from here on; behind each operation the condition holds. -/
def wpAnyM (n : Nat) (P : Program) (md : Region.Mode) (ops : Array Oper) (Q : Exit → Act → World → Prop) (S : World → Prop) : Nat → Array Bool → Act → World → Prop
  | 0, listed, a, w => Region.ready md ops listed = [] ∧ Q .normal a w
  | fuel + 1, listed, a, w =>
    (Region.ready md ops listed = [] → Q .normal a w) ∧
    ∀ i ∈ Region.ready md ops listed, wpOpIn Fence.wide n P ops Q i (fun a' w' => S w' ∧ wpAnyM n P md ops Q S fuel (listed.setIfInBounds i true) a' w') a w

theorem wpAnyIn_of_M : ∀ (fuel : Nat) (listed : Array Bool) (a : Act) (w : World), wpAnyM n P md ops Q S fuel listed a w → wpAnyIn Fence.wide n P md ops Q fuel listed a w
  | 0, _, _, _, h => h
  | fuel + 1, listed, a, w, h => ⟨h.1, fun i hi => wpOpIn_mono (fun a' w' h' => wpAnyIn_of_M fuel _ a' w' h'.2) (h.2 i hi)⟩

theorem wpAnyM_first {i : Nat} {oi : Oper} {v : Value} (hi : ops[i]? = some oi) (hsel : ∀ (j : Nat) (o : Oper) cs b, ops[j]? = some o → o.op ≠ .select cs b)
    (hQ : ∀ c a w, Q (.panic c) (a.put oi.dst v) w → Q (.panic c) a w) :
    ∀ (fuel : Nat) (listed : Array Bool) (a : Act) (w : World),
      (∀ j oj, ops[j]? = some oj → j ≠ i → listed.getD j true = false → (∀ e ∈ oj.after, Region.binds md e = true → e.on ≠ i) → oi.apart ops oj = true) →
      i ∈ Region.ready md ops listed → YieldsIf P ops S oi v a → S w →
      wpAnyM n P md ops Q S fuel (listed.setIfInBounds i true) (a.put oi.dst v) w → wpAnyM n P md ops Q S (fuel + 1) listed a w := by
  intro fuel
  induction fuel with
  | zero =>
    intro listed a w _ hr hy hS H
    refine ⟨fun h => (by rw [h] at hr; cases hr), fun j hj => ?_⟩
    by_cases hji : j = i
    · subst hji; exact yieldsIf_wpOpIn hi hy hS ⟨hS, H⟩
    · have := ready_mono hj hji
      rw [H.1] at this
      cases this
  | succ fuel ih =>
    intro listed a w hfree hr hy hS H
    refine ⟨fun h => (by rw [h] at hr; cases hr), fun j hj => ?_⟩
    by_cases hji : j = i
    · subst hji; exact yieldsIf_wpOpIn hi hy hS ⟨hS, H⟩
    · have h1 := H.2 j (ready_mono hj hji)
      obtain ⟨hjun, oj, hoj, hall⟩ := mem_ready.1 hj
      have hnot : ∀ e ∈ oj.after, Region.binds md e = true → e.on ≠ i := fun e he hb heq => by
        have h1 := hall e he hb
        have h0 := (mem_ready.1 hr).1
        rw [heq] at h1
        rcases Nat.lt_or_ge i listed.size with h' | h'
        · simp [h'] at h0 h1; rw [h0] at h1; cases h1
        · simp [Array.getElem?_eq_none h'] at h1
      have h2 := wpOpIn_putIf hoj (hfree j oj hoj hji hjun hnot) (fun cs b => hsel i oi cs b hi) (fun cs b => hsel j oj cs b hoj) hQ hy h1
      have hfree' : ∀ k ok, ops[k]? = some ok → k ≠ i → (listed.setIfInBounds j true).getD k true = false →
          (∀ e ∈ ok.after, Region.binds md e = true → e.on ≠ i) → oi.apart ops ok = true := fun k ok hk hki hun hno => by
        refine hfree k ok hk hki ?_ hno
        by_cases hjk : j = k
        · subst hjk; exact hjun
        · rw [getD_set_ne true hjk] at hun; exact hun
      refine wpOpIn_mono (fun a' w' h3 => ⟨h3.2.1, ih (listed.setIfInBounds j true) a' w' hfree' (ready_mono hr (Ne.symm hji)) h3.1 h3.2.1 ?_⟩) h2
      rw [Array.setIfInBounds_comm _ _ hji]
      exact h3.2.2

theorem wpAnyM_take {i : Nat} {oi : Oper} (d : Option Tmp) {v : Value} {fuel : Nat} {listed : Array Bool} {a : Act} {w : World} (hi : ops[i]? = some oi) (hd : oi.dst = d)
    (hs : Region.noSelect ops = true) (hf : Region.free md ops listed i = true) (hr : (Region.ready md ops listed).contains i = true)
    (hQ : ∀ c a w, Q (.panic c) (a.put oi.dst v) w → Q (.panic c) a w) (hg : Region.wanted oi (yielded ops a.tmps) = true) (hy : ∀ w, S w → (execOp a.eval oi).run P w = .ok (.value v) w) (hS : S w)
    (h : wpAnyM n P md ops Q S fuel (listed.setIfInBounds i true) (a.put d v) w) : wpAnyM n P md ops Q S (fuel + 1) listed a w :=
  wpAnyM_first hi (Region.noSelect_spec hs) hQ fuel listed a w (Region.free_spec hi hf) (by simpa using hr) (.inl ⟨hg, hy⟩) hS (hd ▸ h)
theorem wpAnyM_pass {i : Nat} {oi : Oper} (d : Option Tmp) {fuel : Nat} {listed : Array Bool} {a : Act} {w : World} (hi : ops[i]? = some oi) (hd : oi.dst = d)
    (hs : Region.noSelect ops = true) (hf : Region.free md ops listed i = true) (hr : (Region.ready md ops listed).contains i = true)
    (hQ : ∀ c a w, Q (.panic c) (a.put oi.dst undef) w → Q (.panic c) a w) (hg : Region.wanted oi (yielded ops a.tmps) = false) (hS : S w)
    (h : wpAnyM n P md ops Q S fuel (listed.setIfInBounds i true) (a.put d undef) w) : wpAnyM n P md ops Q S (fuel + 1) listed a w :=
  wpAnyM_first hi (Region.noSelect_spec hs) hQ fuel listed a w (Region.free_spec hi hf) (by simpa using hr) (.inr ⟨hg, rfl⟩) hS (hd ▸ h)
theorem wpAnyM_one {j : Nat} {o : Oper} {fuel : Nat} {listed : Array Bool} {a : Act} {w : World} (hr : Region.ready md ops listed = [j]) (ho : ops[j]? = some o) (hg : Region.wanted o (yielded ops a.tmps) = true)
    (h : ∀ K : Act → World → Prop, (∀ a' w', S w' → wpAnyM n P md ops Q S fuel (listed.setIfInBounds j true) a' w' → K a' w') → o.wpIn Fence.wide n P a w K Q) : wpAnyM n P md ops Q S (fuel + 1) listed a w := by
  refine ⟨fun h0 => (by rw [hr] at h0; cases h0), fun i hi => ?_⟩
  rw [hr, List.mem_singleton] at hi
  subst hi
  unfold wpOpIn
  simp only [ho, hg, if_true]
  exact h _ fun a' w' h1 h2 => ⟨h1, h2⟩
theorem wpAnyM_done {listed : Array Bool} {a : Act} {w : World} (hr : Region.ready md ops listed = []) (h : Q .normal a w) : ∀ fuel, wpAnyM n P md ops Q S fuel listed a w
  | 0 => ⟨hr, h⟩
  | _ + 1 => ⟨fun _ => h, by rw [hr]; simp⟩
/-- the beginning. -/
theorem wpIn_region_M {id : Nat} {a : Act} {w : World} (S : World → Prop) (hm : P.follows .mixedOrders = true)
    (h : wpAnyM n P .any ops Q S ops.size (Array.replicate ops.size false) a w.drew) : (Code.region id ops true).wpIn Fence.wide n P Q a w :=
  wpIn_region_any hm (wpAnyIn_of_M _ _ _ _ h)
/-- an operation that yields a value and leaves the world. -/
theorem wpIn_val {o : Oper} {a : Act} {w w' : World} {K : Act → World → Prop} {v : Value} (d : Option Tmp) (hd : o.dst = d) (h : (execOp a.eval o).run P w = .ok (.value v) w') (hk : K (a.put d v) w') : o.wpIn Fence.wide n P a w K Q := by
  subst hd
  unfold Oper.wpIn
  refine ⟨fun _ _ => trivial, ?_⟩
  rw [show Fence.wide.round = none from rfl, Oper.semAt_none, h]
  exact hk
end
end Go.Proofs.Ytkmdpmkjcfccnaa
namespace Go.Proofs.Ytkmdpmkjcfccnaa
open Go.RowKit Go.Shelf
attribute [local go_sem] Oper.semAt_some
set_option linter.unusedVariables false
set_option linter.unusedSimpArgs false

def encK (x : List UInt8) : Array Value := #[.string ⟨x.toArray⟩]
def OkK (x : List UInt8) : Prop := x.length ≤ 1000000
theorem of_any (l : List UInt8) (w : World) (h : l.length ≤ 1000000) : Calls Try.prog 68 #[.string ⟨l.toArray⟩] w fun e w' => e = .returned (.int .i64 (slotOf l : Int)) ∧ Below w.heap.size w w' := by
  have := of_walk ⟨l.toArray⟩ w (by unfold maxLen; simp [ByteArray.size]; omega)
  simpa using this

set_option maxHeartbeats 1000000 in
theorem keys_any (a : Option Addr) (n c : Nat) (z : Int) (w : World) :
    CallsIn Fence.wide 0 Try.prog 50 #[.slice a n c, .int .i64 z] w fun e w' =>
      e = .returned (.func (.func 67) #[] #[.pointer (some ⟨w.heap.size, 0, none⟩), .pointer (some ⟨w.heap.size + 1, 0, none⟩)]) ∧
      w' = (w.alloc (.cells #[.slice a n c] 22)).alloc (.cells #[.int .i64 z] 3) := by
  refine callsIn_of_wp Try.func50 rfl trivial ?_ rfl
  simp only [Try.ntmps50, List.size_toArray, List.length_cons, List.length_nil, Nat.reduceAdd, Nat.reduceSub, Array.replicate_succ, Array.replicate_zero, List.push_toArray, List.append_toArray, List.nil_append, List.cons_append]
  gi_wp2
  go_ret
  exact ⟨rfl, rfl⟩

set_option maxRecDepth 100000 in
set_option maxHeartbeats 4000000 in
theorem keys_seq (Bx : Nat) (a : Option Addr) (cap : Nat) (ps : List Lp) (z : Int) (w : World) (h1 : Boxed w Bx 22 (.slice a ps.length cap)) (h2 : Boxed w (Bx + 1) 3 (.int .i64 z)) (hP : Prs w a cap ps) (hn : ps.length ≤ 1000000) (hok : ∀ p ∈ ps, OkK p.key) (Dt : Nat → Prop) (hD : ∀ b off, a = some ⟨b, off, none⟩ → 0 < ps.length → Dt b) (hD2 : Dt (Bx + 1)) :
    SeqB OkK false Try.prog 67 #[.pointer (some ⟨Bx, 0, none⟩), .pointer (some ⟨Bx + 1, 0, none⟩)] encK Dt (fun _ => False) (fun ys => ys = inS z (ps.map Lp.key)) (fun _ => False) ps.length w := by
  intro l J Jx W hW hJ _ hst hY h0
  have HX : Hid (∀ O s A, ¬ Jx O s A) := Lib.hid (hst rfl)
  clear hst
  have HB1 : Boxed W Bx 22 (.slice a ps.length cap) := (hW.block _ h1.lt).trans h1
  have HB2 : Boxed W (Bx + 1) 3 (.int .i64 z) := (hW.block _ h2.lt).trans h2
  have hbx0 : Bx + 1 < w.heap.size := h2.lt
  have HP := Lib.hid hP
  have HOK := Lib.hid hok
  have HBl := Lib.hid hW
  have c0 := HB1.cell
  have HC1 := Lib.hid HB2
  have HY := Lib.hid hY
  have hWs := hW.size
  have HA := Lib.hid hJ
  clear h1 h2 HB1 HB2 hP hok hY hJ hW
  refine callsIn_of_wp Try.func67 rfl trivial ?_ rfl
  simp only [Try.ntmps67, List.size_toArray, List.length_cons, List.length_nil, Nat.reduceAdd, Nat.reduceSub, Array.replicate_succ, Array.replicate_zero, List.push_toArray, List.append_toArray, List.nil_append, List.cons_append]
  gi_wp2
  gi_loopw [5, 8] (fun _ i wr => ∃ (n : Nat) (O : Nat → Prop), i = .int .i64 n ∧ n ≤ ps.length ∧ Hid (∀ k, O k → W.heap.size ≤ k ∧ k < wr.heap.size) ∧ Hid (J O (inS z ((ps.take n).map Lp.key)) wr) ∧ Hid (Keeps Dt W wr) ∧ W.heap.size ≤ wr.heap.size) (fun _ i _ => ps.length - (intOf i).toNat)
  case atStart => exact ⟨0, fun _ => False, rfl, Nat.zero_le _, Lib.hid fun _ h => h.elim, Lib.hid (by simpa [inS] using h0), Lib.hid (Keeps.refl _ _), Nat.le_refl _⟩
  case round =>
    obtain ⟨n, O, rfl, hn', HO, HJs, HK, hsz⟩ := hrel
    by_cases hlt : n < ps.length
    · obtain ⟨b, off, rfl, hb, hc⟩ := HP.out.get (by omega)
      have hq0 := ((hc n hlt).later hb HBl.out).keep (HK.out.block b (by omega) (hD b off rfl (by omega)))
      have hbr : Boxed wr (Bx + 1) 3 (.int .i64 z) := HK.out.heap HC1.out hD2
      have c1r := hbr.cell
      clear hbr
      have hkl := HOK.out (ps.getD n Lp.zero) (by rw [getD_eq hlt]; exact List.getElem_mem hlt)
      have HT : Hid ((ps.take (n + 1)).map Lp.key = (ps.take n).map Lp.key ++ [(ps.getD n Lp.zero).key]) := Lib.hid (by rw [take_succ_getD (d := Lp.zero) hlt, List.map_append]; rfl)
      obtain ⟨⟨key, ⟨k, s, aF, fs, cF, aL, ws, cL, x⟩⟩, hq⟩ : ∃ q, ps.getD n Lp.zero = q := ⟨_, rfl⟩
      rw [hq] at hq0 HT hkl
      obtain ⟨q0, q1, q2, q3, q4, q5⟩ := hq0
      simp only at q0 q1 q2 q3 q4 q5 HT hkl
      have hwl : (ps.length : Int) ≤ 1000000 := by omega
      have k0 : (0 : Int) ≤ (n : Int) := by omega
      have k1 : (n : Int) < (ps.length : Int) := by omega
      have HOF := Lib.hid (fun W => of_any key W hkl)
      have hcnt : (inS z ((ps.take n).map Lp.key)).length ≤ n := by
        have := inS_len z ((ps.take n).map Lp.key)
        rw [List.length_map, List.length_take] at this
        omega
      have HKL := Lib.hid hkl
      clear hc hq hkl
      gi_wp2_with fail
      obtain ⟨w1, hw1⟩ : ∃ w1, wr.alloc (.cells #[.string ⟨key.toArray⟩, .int .i64 k, .string ⟨s.toArray⟩, .slice aF fs.length cF, .slice aL ws.length cL, .int .i64 x] 60) = w1 := ⟨_, rfl⟩
      have hx1 := World.alloc_heap_new wr (.cells #[.string ⟨key.toArray⟩, .int .i64 k, .string ⟨s.toArray⟩, .slice aF fs.length cF, .slice aL ws.length cL, .int .i64 x] 60)
      have hb1 : Below wr.heap.size wr w1 := by rw [← hw1]; exact (Below.refl _ wr).alloc (Nat.le_refl _) _
      rw [hw1] at hx1 ⊢
      have hxb : wr.heap.size < w1.heap.size := (Array.getElem?_eq_some_iff.1 hx1).1
      have p0 : w1.cell? ⟨wr.heap.size, 0, none⟩ = some (.string ⟨key.toArray⟩) := by simp [World.cell?, hx1]
      have c1 := (hb1.cell (p := ⟨Bx + 1, 0, none⟩) (by simp; omega)).trans c1r
      have hbx : Bx + 1 < w1.heap.size := by omega
      have HB1 := Lib.hid hb1
      clear hw1 hx1 hb1 q0 q1 q2 q3 q4 q5 c1r
      have HS0 : Keeps (fun k => k = wr.heap.size ∨ Dt k) w1 w1.drew := (Keeps.refl _ w1).drew
      have hbx1 : Dt (Bx + 1) := hD2
      obtain ⟨g, hg⟩ : ∃ g, decide ((slotOf key : Int) = z) = g := ⟨_, rfl⟩
      cases g with
      | true =>
        have hz1 : (slotOf key : Int) = z := of_decide_eq_true hg
        have HZ := Lib.hid hz1
        have hg2 : ((slotOf key : Int) == z) = true := by simp [hz1]
        refine wpIn_region_M (S := fun W => Keeps (fun k => k = wr.heap.size ∨ Dt k) w1 W) (by kernel_rfl) ?_
        refine wpAnyM_take (i := 0) (some 12) (v := .pointer (some ⟨wr.heap.size, 0, none⟩)) rfl rfl (by kernel_rfl) (by kernel_rfl) (by kernel_rfl) (fun _ _ _ h => h) (by rfl) (fun W hS => ?_) HS0 ?_
        · go_simp
        try simp only [Act.put, List.setIfInBounds_toArray, List.set_cons_zero, List.set_cons_succ]
        refine wpAnyM_take (i := 1) (some 13) (v := .string ⟨key.toArray⟩) rfl rfl (by kernel_rfl) (by kernel_rfl) (by kernel_rfl) (fun _ _ _ h => h) (by rfl) (fun W hS => ?_) HS0 ?_
        · have m0 := (hS.cell (p := ⟨wr.heap.size, 0, none⟩) hxb (.inl rfl)).trans p0
          go_simp
        try simp only [Act.put, List.setIfInBounds_toArray, List.set_cons_zero, List.set_cons_succ]
        refine wpAnyM_take (i := 3) (some 15) (v := .int .i64 z) rfl rfl (by kernel_rfl) (by kernel_rfl) (by kernel_rfl) (fun _ _ _ h => h) (by rfl) (fun W hS => ?_) HS0 ?_
        · have m0 := (hS.cell (p := ⟨Bx + 1, 0, none⟩) hbx (.inr hbx1)).trans c1
          go_simp
        try simp only [Act.put, List.setIfInBounds_toArray, List.set_cons_zero, List.set_cons_succ]
        refine wpAnyM_one (j := 2) (by kernel_rfl) rfl (by rfl) (fun K hK => ?_)
        go_simp
        refine ⟨trivial, rfl, callsIn_wide.2 ((HOF.out _).mono ?_)⟩
        rintro e w2 ⟨rfl, hb⟩
        have HS1 : Keeps (fun k => k = wr.heap.size ∨ Dt k) w1 w2 := HS0.trans (Keeps.of_below hb fun k hk _ => hk)
        have HBW := Lib.hid ((HB1.out.drew).trans (hb.mono HB1.out.size))
        clear hb
        refine hK _ _ HS1 ?_
        clear hK K
        try simp only [Act.put, List.setIfInBounds_toArray, List.set_cons_zero, List.set_cons_succ]
        refine wpAnyM_take (i := 4) (some 16) (v := .bool true) rfl rfl (by kernel_rfl) (by kernel_rfl) (by kernel_rfl) (fun _ _ _ h => h) (by rfl) (fun W hS => ?_) HS1 ?_
        · go_simp
        try simp only [Act.put, List.setIfInBounds_toArray, List.set_cons_zero, List.set_cons_succ]
        refine wpAnyM_take (i := 5) (some 17) (v := .bool true) rfl rfl (by kernel_rfl) (by kernel_rfl) (by kernel_rfl) (fun _ _ _ h => h) (by rfl) (fun W hS => ?_) HS1 ?_
        · go_simp
        try simp only [Act.put, List.setIfInBounds_toArray, List.set_cons_zero, List.set_cons_succ]
        refine wpAnyM_take (i := 6) (some 18) (v := .func (.yield l) #[] #[]) rfl rfl (by kernel_rfl) (by kernel_rfl) (by kernel_rfl) (fun _ _ _ h => h) (by rfl) (fun W hS => ?_) HS1 ?_
        · go_simp
        try simp only [Act.put, List.setIfInBounds_toArray, List.set_cons_zero, List.set_cons_succ]
        refine wpAnyM_take (i := 7) (some 19) (v := .pointer (some ⟨wr.heap.size, 0, none⟩)) rfl rfl (by kernel_rfl) (by kernel_rfl) (by kernel_rfl) (fun _ _ _ h => h) (by rfl) (fun W hS => ?_) HS1 ?_
        · go_simp
        try simp only [Act.put, List.setIfInBounds_toArray, List.set_cons_zero, List.set_cons_succ]
        refine wpAnyM_take (i := 8) (some 20) (v := .string ⟨key.toArray⟩) rfl rfl (by kernel_rfl) (by kernel_rfl) (by kernel_rfl) (fun _ _ _ h => h) (by rfl) (fun W hS => ?_) HS1 ?_
        · have m0 := (hS.cell (p := ⟨wr.heap.size, 0, none⟩) hxb (.inl rfl)).trans p0
          go_simp
        try simp only [Act.put, List.setIfInBounds_toArray, List.set_cons_zero, List.set_cons_succ]
        have hJ2 := HA.out _ _ _ _ HJs.out (Keeps.of_below HBW.out fun k hk _ => hk)
        have hs2 := HBW.out.size
        obtain ⟨fn, tmps, assign, body, hy, hR⟩ := HY.out O (inS z ((ps.take n).map Lp.key)) key w2 (fun j hj => ⟨(HO.out j hj).1, Nat.lt_of_lt_of_le (HO.out j hj).2 hs2⟩) (by omega) hJ2 (by omega) HKL.out
        have HR := Lib.hid hR
        unfold encK at hy
        clear hR hJ2
        refine wpAnyM_one (j := 9) (by kernel_rfl) rfl (by rfl) (fun K hK => ?_)
        go_simp
        refine ⟨rfl, HR.out.mono ?_⟩
        rintro e W3 ⟨hk3, O3, hg3, (⟨rfl, hJ3⟩ | ⟨rfl, hJx3⟩)⟩
        case inr => exact (HX.out _ _ _ hJx3).elim
        have HS2 : Keeps (fun k => k = wr.heap.size ∨ Dt k) w1 W3 := HS1.trans (hk3.mono fun k _ h => by
          rcases h with h | h
          · subst h; exact .inr (.inr ⟨hsz, fun h => by have := (HO.out _ h).2; omega⟩)
          · exact .inl h)
        have HK3 := Lib.hid hk3
        have HG3 := Lib.hid hg3
        have HJ3 := Lib.hid hJ3
        clear hk3 hg3 hJ3 hy
        refine hK _ _ HS2 ?_
        clear hK K
        try simp only [Act.put, List.setIfInBounds_toArray, List.set_cons_zero, List.set_cons_succ]
        refine wpAnyM_take (i := 10) (some 22) (v := .bool false) rfl rfl (by kernel_rfl) (by kernel_rfl) (by kernel_rfl) (fun _ _ _ h => h) (by rfl) (fun W hS => ?_) HS2 ?_
        · go_simp
        try simp only [Act.put, List.setIfInBounds_toArray, List.set_cons_zero, List.set_cons_succ]
        refine wpAnyM_one (j := 11) (by kernel_rfl) rfl (by rfl) (fun K hK => ?_)
        go_simp
        refine hK _ _ HS2 ?_
        clear hK K
        try simp only [Act.put, List.setIfInBounds_toArray, List.set_cons_zero, List.set_cons_succ]
        refine wpAnyM_done (by kernel_rfl) ?_ _
        have HT2 : Hid (inS z ((ps.take (n + 1)).map Lp.key) = inS z ((ps.take n).map Lp.key) ++ [key]) := Lib.hid (by rw [HT.out, inS_snoc, if_pos HZ.out])
        have hs3 := HK3.out.size
        have HK4 : Hid (Keeps Dt W W3) := Lib.hid ((HK.out.trans (Keeps.of_below HBW.out fun k hk _ => hk)).trans (HK3.out.mono fun k _ h => .inl h))
        gi_wp2
        go_roundw
        case rel => exact ⟨n + 1, O3, by go_num, by omega, Lib.hid (fun k hk => ⟨by
          rcases (HG3.out k hk).2 with h | h
          · exact (HO.out k h).1
          · omega, (HG3.out k hk).1⟩), Lib.hid (by rw [HT2.out]; exact HJ3.out), HK4, by omega⟩
        case measure => simp [intOf]; omega
      | false =>
        have hz1 : ¬ (slotOf key : Int) = z := of_decide_eq_false hg
        have HZ := Lib.hid hz1
        have hg2 : ((slotOf key : Int) == z) = false := by simp [hz1]
        refine wpIn_region_M (S := fun W => Keeps (fun k => k = wr.heap.size ∨ Dt k) w1 W) (by kernel_rfl) ?_
        refine wpAnyM_take (i := 0) (some 12) (v := .pointer (some ⟨wr.heap.size, 0, none⟩)) rfl rfl (by kernel_rfl) (by kernel_rfl) (by kernel_rfl) (fun _ _ _ h => h) (by rfl) (fun W hS => ?_) HS0 ?_
        · go_simp
        try simp only [Act.put, List.setIfInBounds_toArray, List.set_cons_zero, List.set_cons_succ]
        refine wpAnyM_take (i := 1) (some 13) (v := .string ⟨key.toArray⟩) rfl rfl (by kernel_rfl) (by kernel_rfl) (by kernel_rfl) (fun _ _ _ h => h) (by rfl) (fun W hS => ?_) HS0 ?_
        · have m0 := (hS.cell (p := ⟨wr.heap.size, 0, none⟩) hxb (.inl rfl)).trans p0
          go_simp
        try simp only [Act.put, List.setIfInBounds_toArray, List.set_cons_zero, List.set_cons_succ]
        refine wpAnyM_take (i := 3) (some 15) (v := .int .i64 z) rfl rfl (by kernel_rfl) (by kernel_rfl) (by kernel_rfl) (fun _ _ _ h => h) (by rfl) (fun W hS => ?_) HS0 ?_
        · have m0 := (hS.cell (p := ⟨Bx + 1, 0, none⟩) hbx (.inr hbx1)).trans c1
          go_simp
        try simp only [Act.put, List.setIfInBounds_toArray, List.set_cons_zero, List.set_cons_succ]
        refine wpAnyM_one (j := 2) (by kernel_rfl) rfl (by rfl) (fun K hK => ?_)
        go_simp
        refine ⟨trivial, rfl, callsIn_wide.2 ((HOF.out _).mono ?_)⟩
        rintro e w2 ⟨rfl, hb⟩
        have HS1 : Keeps (fun k => k = wr.heap.size ∨ Dt k) w1 w2 := HS0.trans (Keeps.of_below hb fun k hk _ => hk)
        have HBW := Lib.hid ((HB1.out.drew).trans (hb.mono HB1.out.size))
        clear hb
        refine hK _ _ HS1 ?_
        clear hK K
        try simp only [Act.put, List.setIfInBounds_toArray, List.set_cons_zero, List.set_cons_succ]
        refine wpAnyM_take (i := 4) (some 16) (v := .bool false) rfl rfl (by kernel_rfl) (by kernel_rfl) (by kernel_rfl) (fun _ _ _ h => h) (by rfl) (fun W hS => ?_) HS1 ?_
        · go_simp
        try simp only [Act.put, List.setIfInBounds_toArray, List.set_cons_zero, List.set_cons_succ]
        refine wpAnyM_take (i := 5) (some 17) (v := .bool false) rfl rfl (by kernel_rfl) (by kernel_rfl) (by kernel_rfl) (fun _ _ _ h => h) (by rfl) (fun W hS => ?_) HS1 ?_
        · go_simp
        try simp only [Act.put, List.setIfInBounds_toArray, List.set_cons_zero, List.set_cons_succ]
        refine wpAnyM_pass (i := 6) (some 18) rfl rfl (by kernel_rfl) (by kernel_rfl) (by kernel_rfl) (fun _ _ _ h => h) (by rfl) HS1 ?_
        try simp only [Act.put, List.setIfInBounds_toArray, List.set_cons_zero, List.set_cons_succ]
        refine wpAnyM_pass (i := 7) (some 19) rfl rfl (by kernel_rfl) (by kernel_rfl) (by kernel_rfl) (fun _ _ _ h => h) (by rfl) HS1 ?_
        try simp only [Act.put, List.setIfInBounds_toArray, List.set_cons_zero, List.set_cons_succ]
        refine wpAnyM_pass (i := 8) (some 20) rfl rfl (by kernel_rfl) (by kernel_rfl) (by kernel_rfl) (fun _ _ _ h => h) (by rfl) HS1 ?_
        try simp only [Act.put, List.setIfInBounds_toArray, List.set_cons_zero, List.set_cons_succ]
        refine wpAnyM_pass (i := 9) (some 21) rfl rfl (by kernel_rfl) (by kernel_rfl) (by kernel_rfl) (fun _ _ _ h => h) (by rfl) HS1 ?_
        try simp only [Act.put, List.setIfInBounds_toArray, List.set_cons_zero, List.set_cons_succ]
        refine wpAnyM_pass (i := 10) (some 22) rfl rfl (by kernel_rfl) (by kernel_rfl) (by kernel_rfl) (fun _ _ _ h => h) (by rfl) HS1 ?_
        try simp only [Act.put, List.setIfInBounds_toArray, List.set_cons_zero, List.set_cons_succ]
        refine wpAnyM_one (j := 11) (by kernel_rfl) rfl (by rfl) (fun K hK => ?_)
        go_simp
        refine hK _ _ HS1 ?_
        clear hK K
        try simp only [Act.put, List.setIfInBounds_toArray, List.set_cons_zero, List.set_cons_succ]
        refine wpAnyM_done (by kernel_rfl) ?_ _
        have HT2 : Hid (inS z ((ps.take (n + 1)).map Lp.key) = inS z ((ps.take n).map Lp.key)) := Lib.hid (by rw [HT.out, inS_snoc, if_neg HZ.out])
        have hs3 := HBW.out.size
        gi_wp2
        go_roundw
        case rel => exact ⟨n + 1, O, by go_num, by omega, Lib.hid (fun k hk => ⟨(HO.out k hk).1, Nat.lt_of_lt_of_le (HO.out k hk).2 hs3⟩), Lib.hid (by rw [HT2.out]; exact HA.out _ _ _ _ HJs.out (Keeps.of_below HBW.out fun k hk _ => hk)), Lib.hid (HK.out.trans (Keeps.of_below HBW.out fun k hk _ => hk)), by omega⟩
        case measure => simp [intOf]; omega
    · obtain rfl : n = ps.length := by omega
      have k1 : ¬ (ps.length : Int) < (ps.length : Int) := by omega
      have hjs := HJs.out
      rw [List.take_length] at hjs
      have HJ2 := Lib.hid hjs
      clear hjs
      gi_wp2
      refine bodyPost_end (results_none rfl _ _ _) rfl ?_
      exact ⟨⟨_, rfl⟩, hsz, O, HO.out, HJ2.out⟩
end Go.Proofs.Ytkmdpmkjcfccnaa
namespace Go.Proofs.Ytkmdpmkjcfccnaa
open Go.RowKit Go.Shelf
attribute [local go_sem] Oper.semAt_some
set_option linter.unusedVariables false
set_option linter.unusedSimpArgs false

theorem own_block_noK {α : Type} {id : Nat} {R : Nat → Prop} {O : Nat → Prop} {I : (Nat → Prop) → List α → World → Prop} {Ix : Code → (Nat → Prop) → List α → World → Prop} {xs : List α} {W : World} : ¬ LetsOut (Exit.inBlock id (ownPostT R O I Ix xs W)) := by
  rintro ⟨a, w, h⟩
  exact h
/-- the collector's box (in block Bb) and row. -/
def KInv (w : World) (Bb : Nat) (O : Nat → Prop) (pre : List (List UInt8)) (W : World) : Prop :=
  (∃ v, Boxed W Bb 29 v ∧ W.ownsRow (w.heap.size + 1) 9 1 v pre.length (wcells pre) ∧ ∀ g, v.ownBlock = some g → O g) ∧ Below w.heap.size w W
/-- a word more in the box's row. -/
theorem kcollect_end {w w1 A : World} {b : Nat} {O Dt : Nat → Prop} {pre : List (List UInt8)} {x : List UInt8} {v : Value} {g' cap' : Nat} (hrow : A.ownsRow (w.heap.size + 1) 9 1 v pre.length (wcells pre)) (hown : ∀ g, v.ownBlock = some g → O g)
    (hB : Below w.heap.size w A) (hO : ∀ k, O k → b + 2 ≤ k ∧ k < A.heap.size) (hDt : ∀ k, Dt k → k < b ∧ k ≠ w.heap.size) (hb : w.heap.size < b) (hv1 : Boxed w1 w.heap.size 29 v)
    (h1 : w1.ownsRow (w.heap.size + 1) 9 1 (.slice (some ⟨g', 0, none⟩) (pre.length + 1) cap') (pre.length + 1) (wcells pre ++ [.string ⟨x.toArray⟩])) (hk : Keeps (fun k => some k ≠ v.ownBlock) A w1)
    (hat : v.ownBlock = some g' ∨ A.heap.size ≤ g') :
    Keeps (RoundS Dt (fun _ => False) b O) A (w1.setCell ⟨w.heap.size, 0, none⟩ (.slice (some ⟨g', 0, none⟩) (pre.length + 1) cap')) ∧ ∃ O', Grows O O' A (w1.setCell ⟨w.heap.size, 0, none⟩ (.slice (some ⟨g', 0, none⟩) (pre.length + 1) cap')) ∧
      KInv w w.heap.size O' (pre ++ [x]) (w1.setCell ⟨w.heap.size, 0, none⟩ (.slice (some ⟨g', 0, none⟩) (pre.length + 1) cap')) := by
  have hg' := h1.lt g' rfl
  refine ⟨?_, fun k => O k ∨ (A.heap.size ≤ k ∧ k < w1.heap.size), ?_, ⟨_, hv1.set _, ?_, ?_⟩, ?_⟩
  · refine (hk.mono ?_).setCell (.inr ?_) _
    · rintro k hkA h e
      have hg := hO k (hown k e.symm)
      rcases h with h | h | h
      · have := hDt k h; omega
      · exact h
      · exact h.2 (hown k e.symm)
    · rintro (h | h | h)
      · have := hDt _ h; simp at this
      · exact h
      · have := h.1; simp at this; omega
  · rintro k (h | h)
    · exact ⟨by simp; exact Nat.lt_of_lt_of_le (hO k h).2 hk.size, .inl h⟩
    · exact ⟨by simp; exact h.2, .inr h.1⟩
  · have := ownsRow_setCell_below h1 (a := ⟨w.heap.size, 0, none⟩) (by simp) (.slice (some ⟨g', 0, none⟩) (pre.length + 1) cap')
    simpa [wcells] using this
  · intro g hg
    have e' : g = g' := by have := hg; simp [Value.ownBlock] at this; exact this.symm
    rcases hat with e | e
    · exact .inl (hown g (by rw [e, e']))
    · exact .inr ⟨by omega, by omega⟩
  · exact (hB.trans (hk.below hB.size fun k hk' e => by have := hrow.lt k e.symm; omega)).setCell (p := ⟨w.heap.size, 0, none⟩) (Nat.le_refl _) _

set_option maxRecDepth 100000 in
set_option maxHeartbeats 4000000 in
theorem spin_any (a : Option Addr) (cap : Nat) (ps : List Lp) (z : Int) (w : World) (hP : Prs w a cap ps) (hn : ps.length ≤ 1000000) (hok : ∀ p ∈ ps, p.key.length ≤ 1000000) :
    Calls Try.prog 24 #[.slice a ps.length cap, .int .i64 z] w fun r W => ∃ u, r = .returned u ∧ RowW w u (inS z (ps.map Lp.key)) W := by
  obtain ⟨iS, hiS, hiS0, hiS1, hiS2⟩ := info_parts infoStr
  refine (callsIn_wide (n := 0)).1 ?_
  obtain ⟨w1, hw1⟩ : ∃ w1, w.alloc (.cells #[.slice none 0 0] 29) = w1 := ⟨_, rfl⟩
  have hs1 : w1.heap.size = w.heap.size + 1 := by rw [← hw1]; simp
  have hbox0 : Boxed w1 w.heap.size 29 (.slice none 0 0) := by rw [← hw1]; exact Boxed.new w 29 _
  have hB1 : Below w.heap.size w w1 := by rw [← hw1]; exact (Below.refl _ w).alloc (Nat.le_refl _) _
  have hks := keys_any a ps.length cap z w1
  obtain ⟨w2, hw2⟩ : ∃ w2, (w1.alloc (.cells #[.slice a ps.length cap] 22)).alloc (.cells #[.int .i64 z] 3) = w2 := ⟨_, rfl⟩
  have hs2 : w2.heap.size = w.heap.size + 3 := by rw [← hw2]; simp; omega
  have hb2 : Below w1.heap.size w1 w2 := by rw [← hw2]; exact ((Below.refl _ w1).alloc (Nat.le_refl _) _).alloc (by simp) _
  have hx1 : Boxed w2 (w.heap.size + 1) 22 (.slice a ps.length cap) := by
    rw [← hw2, ← hs1]
    exact (Boxed.new w1 _ _).alloc _
  have hx2 : Boxed w2 (w.heap.size + 1 + 1) 3 (.int .i64 z) := by
    rw [← hw2, ← hs1]
    have := Boxed.new (w1.alloc (.cells #[.slice a ps.length cap] 22)) 3 (.int .i64 z)
    rwa [World.size_alloc] at this
  have hBox2 : Boxed w2 w.heap.size 29 (.slice none 0 0) := (hb2.block _ (by omega)).trans hbox0
  have hBw : Below w.heap.size w w2 := hB1.trans (hb2.mono (by omega))
  have hseq := keys_seq (w.heap.size + 1) a cap ps z w2 hx1 hx2 (hP.later hBw) hn hok (fun k => k < w2.heap.size ∧ k ≠ w.heap.size) (fun b off e h0 => by
    obtain ⟨b', o', e', hlt, -⟩ := hP.get h0
    rw [e] at e'
    cases e'
    exact ⟨by omega, by omega⟩) ⟨by omega, by omega⟩
  rw [hw2, hs1] at hks
  have HSQ := Lib.hid hseq
  have HKS := Lib.hid hks
  have HBW := Lib.hid hBw
  have HBX := Lib.hid hBox2
  have HW1 := Lib.hid hw1
  clear hseq hks hBw hBox2 hx1 hx2 hb2 hw2 hbox0 hB1 hP hok hw1
  refine callsIn_of_wp_marks Try.func24 rfl trivial ?_ rfl
  simp only [Try.ntmps24, List.size_toArray, List.length_cons, List.length_nil, Nat.reduceAdd, Nat.reduceSub, Array.replicate_succ, Array.replicate_zero, List.push_toArray, List.append_toArray, List.nil_append, List.cons_append]
  gi_wp2_with (rw [HW1.out]; refine ⟨trivial, rfl, ?_⟩; with_reducible refine HKS.out.mono ?_; rintro e w2' ⟨rfl, hw⟩; have HW2 := Lib.hid hw; clear hw)
  obtain rfl : w2' = w2 := HW2.out
  refine wpIn_rangeB (gf := 67) (lb := #[.pointer (some ⟨w.heap.size + 1, 0, none⟩), .pointer (some ⟨w.heap.size + 1 + 1, 0, none⟩)]) rfl (enters_of Try.func67 (by kernel_rfl) rfl) HSQ.out (Below.refl _ _) (fun k h => h.1) (fun k h => h.elim) (fun _ => rfl)
    (KInv w w.heap.size) (fun _ _ _ _ => False) ?hI (fun _ _ _ _ _ h _ => h) (fun _ _ _ _ _ h => h) ⟨⟨_, HBX.out, World.ownsRow_nil _ _ _ _, by simp [Value.ownBlock]⟩, HBW.out⟩
    (fun _ x a' _ => a' = { tmps := #[.slice a ps.length cap, .int .i64 z, undef, undef, .slice none 0 0, .pointer (some ⟨w.heap.size, 0, none⟩), .string ⟨x.toArray⟩, .slice a ps.length cap, .int .i64 z, .func (.func 67) #[] #[.pointer (some ⟨w.heap.size + 1, 0, none⟩), .pointer (some ⟨w.heap.size + 1 + 1, 0, none⟩)], .string ⟨x.toArray⟩, undef, undef, undef, undef, undef, undef], defers := [] })
    (fun O x a' A C h hk => h) ?assign ?body ?done ?stop
  case hI =>
    rintro O s A C ⟨⟨v, h1, h2, h4⟩, h5⟩ hk
    have own : ∀ k, k < w2'.heap.size → IterS (fun _ => False) w2'.heap.size O k := fun k h => ⟨id, .inl h⟩
    exact ⟨⟨v, hk.heap h1 (own _ (by omega)), owns_kept h2 hk (fun g hg => ⟨id, .inr (h4 g hg)⟩), h4⟩, h5.trans (hk.below h5.size fun k hk' => own k (by omega))⟩
  case assign =>
    intro O pre x A K hO hA hi hK
    have HK := Lib.hid hK
    have HI := Lib.hid hi
    clear hK hi
    unfold encK
    gi_wp2
    exact HK.out _ _ (Keeps.refl _ _) HI.out rfl
  case body =>
    rintro O pre x a' A hO hA ⟨r, hr⟩ ⟨⟨v, hv, hrow, hown⟩, hB⟩ rfl hlen hT
    have HC1 := Lib.hid (fun W => clone_any x W (by have : x.length ≤ 1000000 := hT; omega))
    have hzB := hB.size
    have hbl := hv.lt
    have HS0 : A.drew.cell? ⟨w.heap.size, 0, none⟩ = some v := (World.cell?_drew _ _).trans hv.cell
    refine wpIn_block ?_
    try dsimp only
    refine wpIn_region_L (S := fun W => W.cell? ⟨w.heap.size, 0, none⟩ = some v) (f := 5) (by kernel_rfl) own_block_noK (by kernel_rfl) ?_
    refine wpAnyL_take (i := 0) (some 11) (v := v) rfl rfl (by kernel_rfl) (by kernel_rfl) (by kernel_rfl) (by kernel_rfl) (fun _ _ _ h => h) (by rfl) (fun W hS => ?_) HS0 ?_
    · have m0 := hS
      go_simp
    try simp only [Act.put, List.setIfInBounds_toArray, List.set_cons_zero, List.set_cons_succ]
    refine wpAnyL_take (i := 1) (some 12) (v := .string ⟨x.toArray⟩) rfl rfl (by kernel_rfl) (by kernel_rfl) (by kernel_rfl) (by kernel_rfl) (fun _ _ _ h => h) (by rfl) (fun W hS => ?_) HS0 ?_
    · have m0 := hS
      go_simp
    try simp only [Act.put, List.setIfInBounds_toArray, List.set_cons_zero, List.set_cons_succ]
    refine wpAnyL_one (j := 2) (by kernel_rfl) rfl (by rfl) (fun K hK => ?_)
    go_simp
    with_reducible refine (HC1.out _).mono ?_
    rintro e w3 ⟨rfl, hb⟩
    have HS1 := (hb.cell (p := ⟨w.heap.size, 0, none⟩) (World.block_lt_of_cell? _ _ HS0)).trans HS0
    have HB1 := Lib.hid hb
    clear hb
    refine hK _ _ (fun _ => HS1) ?_
    clear hK K
    try simp only [Act.put, List.setIfInBounds_toArray, List.set_cons_zero, List.set_cons_succ]
    refine wpAnyL_one (j := 3) (by kernel_rfl) rfl (by rfl) (fun K hK => ?_)
    refine oper_wp_val (v := .slice (some ⟨w3.heap.size, 0, none⟩) 1 1) (w' := w3.alloc (.cells #[.string ⟨x.toArray⟩] 9)) (by go_simp) ?_
    have hk2 : Keeps (fun _ => True) A w3 := ((Keeps.refl (fun _ => True) A).drew.trans (Keeps.of_below HB1.out fun _ h _ => h))
    have hz2 := hk2.size
    have HO2 := Lib.hid (owns_kept (S := fun _ => True) hrow hk2 fun _ _ => trivial)
    have HK2 := Lib.hid hk2
    have HS3 := (World.cell?_alloc_lt w3 (.cells #[.string ⟨x.toArray⟩] 9) ⟨w.heap.size, 0, none⟩ (World.block_lt_of_cell? _ _ HS1)).trans HS1
    refine hK _ _ (fun _ => HS3) ?_
    clear hK K hk2
    try simp only [Act.put, List.setIfInBounds_toArray, List.set_cons_zero, List.set_cons_succ]
    refine wpAnyL_one (j := 4) (by kernel_rfl) rfl (by rfl) (fun K hK => ?_)
    refine wp_append_lies _ (.tmp 11) (.tmp 14) 29 rfl (w.heap.size + 1) 9 iS _ 1 16 Try.underlying29 hiS hiS0 hiS1 hiS2 rfl (by decide) v pre.length (wcells pre) rfl (HO2.out.alloc _) ⟨w3.heap.size, 0, none⟩ 1 1 [.string ⟨x.toArray⟩] rfl rfl (one_news w3 _ rfl _ _) (by simp [Value.oneCell']) (by decide) (by unfold maxLen; omega) (by omega) (by simp; omega) _ rfl ?_
    intro g cap2 w4 hown3 hgrow hat hlt3
    have hne : some w.heap.size ≠ v.ownBlock := fun e => by have := (hrow.lt _ e.symm).1; omega
    have hk4 : Keeps (fun k => some k ≠ v.ownBlock) A w4 := ((HK2.out.mono fun _ _ _ => trivial).alloc _).trans (Keeps.of_grown (S := fun k => some k ≠ v.ownBlock) hgrow fun r e h => h e.symm)
    have hv3 : Boxed w4 w.heap.size 29 v := hk4.heap hv hne
    have HE := Lib.hid (kcollect_end (Dt := fun k => k < w2'.heap.size ∧ k ≠ w.heap.size) hrow hown hB hO (fun k h => h) (by omega) hv3 hown3 hk4 (hat.imp id fun h => by rw [h]; simp; omega))
    have HS4 := hv3.cell
    have f4 := hv3.frozen
    clear hown3 hgrow hat hlt3 hk4
    refine hK _ _ (fun _ => HS4) ?_
    clear hK K
    try simp only [Act.put, List.setIfInBounds_toArray, List.set_cons_zero, List.set_cons_succ]
    refine wpAnyL_one (j := 5) (by kernel_rfl) rfl (by rfl) (fun K hK => ?_)
    go_simp
    refine hK _ _ (fun h => (h rfl).elim) ?_
    clear hK K
    try simp only [Act.put, List.setIfInBounds_toArray, List.set_cons_zero, List.set_cons_succ]
    refine wpAnyL_done (by kernel_rfl) ?_ _
    exact HE.out
  case done =>
    rintro O D xs A hD hDs hO - hSx ⟨⟨v, hv, hrow, hown⟩, hB⟩ hDd
    subst hSx
    have b1 := hv.cell
    have hk : Keeps (fun k => k ≠ D) A (A.putObj D (.deferred none)) := (Keeps.refl _ A).putObj (fun h => h rfl) _
    gi_wp2
    refine ⟨by simp, .inl ⟨_, _, rfl, run_takeDeferred hDd, ?_⟩⟩
    refine ⟨_, results_tmp rfl _ _ _, v, rfl, owns_base (owns_kept hrow hk (fun g hg => ?_)) (by omega), hB.trans (hk.below hB.size fun k hk => by omega)⟩
    have := (hO g (hown g hg)).1
    omega
  case stop =>
    rintro O D c pre A _ _ _ _ _ h _
    exact h.elim
end Go.Proofs.Ytkmdpmkjcfccnaa
