/- The contracts of the reference's Raw and Get (11.1). -/
import Derived.Test.YtkmdpmkjcfccnaaDbBase
import Derived.Test.YtkmdpmkjcfccnaaGotBox
import Derived.Test.YtkmdpmkjcfccnaaHeldL
import Derived.Test.YtkmdpmkjcfccnaaItAlive
namespace Go.Proofs.Ytkmdpmkjcfccnaa
open Go.RowKit Go.Shelf
attribute [local go_sem] Oper.semAt_some
set_option linter.unusedVariables false
set_option linter.unusedSimpArgs false

/-- the item of a key, with its places. -/
def rawL (ps : List Lp) (key : List UInt8) : Option Li := (ps.find? fun p => decide (p.key = key)).map Lp.it
theorem rawL_hit (ps : List Lp) (key : List UInt8) : ∀ n, n < ps.length → (∀ j, j < n → (ps.getD j Lp.zero).key ≠ key) → (ps.getD n Lp.zero).key = key → rawL ps key = some (ps.getD n Lp.zero).it := by
  induction ps with
  | nil => intro n h; simp at h
  | cons p ps ih =>
    intro n hn h he
    unfold rawL
    cases n with
    | zero =>
      have he' : p.key = key := by simpa using he
      rw [List.find?_cons_of_pos (by simpa using he')]
      rfl
    | succ n =>
      have h0 : ¬ p.key = key := by simpa using h 0 (by omega)
      rw [List.find?_cons_of_neg (by simpa using h0)]
      have := ih n (by simpa using hn) (fun j hj => by simpa using h (j + 1) (by omega)) (by simpa using he)
      unfold rawL at this
      rw [this]
      simp
theorem rawL_miss (ps : List Lp) (key : List UInt8) (h : ∀ j, j < ps.length → (ps.getD j Lp.zero).key ≠ key) : rawL ps key = none := by
  unfold rawL
  rw [List.find?_eq_none.2 ?_]
  · rfl
  · intro p hp
    obtain ⟨j, hj, rfl⟩ := List.getElem_of_mem hp
    have := h j hj
    rw [getD_eq hj] at this
    simpa using this
/-- what Raw and Get tell. -/
def gotv (o : Option Li) : Value := .agg #[.int .i64 (o.getD Li.zero).k, .string ⟨(o.getD Li.zero).s.toArray⟩, .slice (o.getD Li.zero).aF (o.getD Li.zero).fs.length (o.getD Li.zero).cF, .slice (o.getD Li.zero).aL (o.getD Li.zero).ws.length (o.getD Li.zero).cL, .int .i64 (o.getD Li.zero).x, .bool o.isSome]
theorem rawL_ok {w : World} {ps : List Lp} (h : ∀ p ∈ ps, p.Ok w) (key : List UInt8) : ((rawL ps key).getD Li.zero).Ok w := by
  unfold rawL
  cases hf : ps.find? fun p => decide (p.key = key) with
  | none => exact Li.zero_ok w
  | some p => exact (h p (List.mem_of_find?_eq_some hf)).2

set_option maxRecDepth 100000 in
set_option maxHeartbeats 4000000 in
theorem raw_any (a : Option Addr) (cap : Nat) (ps : List Lp) (key : List UInt8) (w : World) (hP : Prs w a cap ps) (hn : ps.length ≤ 1000000) :
    Calls Try.prog 19 #[.slice a ps.length cap, .string ⟨key.toArray⟩] w fun e W => e = .returned (gotv (rawL ps key)) ∧ Below w.heap.size w W := by
  have HP := Lib.hid hP
  have HZ := Lib.hid (Gz.new w)
  have hnI : (ps.length : Int) ≤ 1000000 := by omega
  clear hP
  go_enter Try.func19, Try.ntmps19
  go_wp2
  go_loopw [5] (fun i wr => ∃ n : Nat, n ≤ ps.length ∧ i = .int .i64 n ∧ Hid (∀ j, j < n → (ps.getD j Lp.zero).key ≠ key) ∧ Hid (Gz w wr)) (fun i _ => ps.length - (intOf i).toNat)
  case atStart => exact ⟨0, Nat.zero_le _, rfl, Lib.hid fun j h => by omega, HZ⟩
  case round =>
    obtain ⟨n, hn', rfl, HJ, HG⟩ := hrel
    by_cases hlt : n < ps.length
    · have hP1 := HP.out.later HG.out.2
      obtain ⟨b, off, rfl, hb, hc⟩ := hP1.get (by omega)
      have hck := hc n hlt
      have HH := Lib.hid (rawL_hit ps key n hlt HJ.out)
      have HN := Lib.hid (show ¬ (ps.getD n Lp.zero).key = key → ∀ j, j < n + 1 → (ps.getD j Lp.zero).key ≠ key from fun h j hj => by
        rcases Nat.lt_or_ge j n with h' | h'
        · exact HJ.out j h'
        · rw [show j = n by omega]; exact h)
      clear hc
      obtain ⟨⟨key0, k, s, aF, fs, cF, aL, ws, cL, x⟩, hq⟩ : ∃ q, ps.getD n Lp.zero = q := ⟨_, rfl⟩
      rw [hq] at hck HH HN
      clear hq
      obtain ⟨q0, q1, q2, q3, q4, q5⟩ := hck
      simp only [] at q0 q1 q2 q3 q4 q5
      obtain ⟨⟨c0, c1, c2, c3, c4, c5⟩, z0, z1, z2, z3, z4, z5⟩ := HG.out.1.at
      have k0 : (0 : Int) ≤ (n : Int) := by omega
      have k1 : (n : Int) < (ps.length : Int) := by omega
      by_cases he : key0 = key
      · have HE := Lib.hid (HH.out he)
        have he1 : (key0 == key) = true := by simp [he]
        have he2 : (key0 != key) = false := by simp [he]
        clear he HN HH
        have HS := Lib.hid (And.intro (HG.out.1.store k s aF fs.length cF aL ws.length cL x true) (below_stGb HG.out.2 (Nat.le_refl _) k s aF fs.length cF aL ws.length cL x true))
        go_wp2
        exact bodyPost_ret (results_cell rfl rfl (loadGb HS.out.1)) rfl ⟨by rw [HE.out]; rfl, HS.out.2⟩
      · have HE := Lib.hid (HN.out he)
        have he1 : (key0 == key) = false := by simp [he]
        have he2 : (key0 != key) = true := by simp [he]
        clear he HN HH c0 c1 c2 c3 c4 c5
        go_wp2
        go_roundw
        case rel => exact ⟨n + 1, by omega, by go_num, HE, HG⟩
        case measure => simp [intOf]; omega
    · obtain rfl : n = ps.length := by omega
      have HE := Lib.hid (rawL_miss ps key HJ.out)
      obtain ⟨⟨c0, c1, c2, c3, c4, c5⟩, z0, z1, z2, z3, z4, z5⟩ := HG.out.1.at
      have k1 : ¬ (ps.length : Int) < (ps.length : Int) := by omega
      have HS := Lib.hid (And.intro (HG.out.1.store 0 [] none 0 0 none 0 0 0 false) (below_stGb HG.out.2 (Nat.le_refl _) 0 [] none 0 0 none 0 0 0 false))
      go_wp2
      exact bodyPost_ret (results_cell rfl rfl (loadGb HS.out.1)) rfl ⟨by rw [HE.out]; rfl, HS.out.2⟩

/-- .. if alive. -/
def getL (ps : List Lp) (key : List UInt8) (now : Int) : Option Li := (rawL ps key).filter fun i => decide (i.x = 0) || decide (now < i.x)

set_option maxRecDepth 100000 in
set_option maxHeartbeats 4000000 in
theorem dbget_any (a : Option Addr) (cap : Nat) (ps : List Lp) (key : List UInt8) (now : Int) (w : World) (hP : Prs w a cap ps) (hn : ps.length ≤ 1000000) :
    Calls Try.prog 18 #[.slice a ps.length cap, .string ⟨key.toArray⟩, .int .i64 now] w fun e W => e = .returned (gotv (getL ps key now)) ∧ Below w.heap.size w W := by
  have hR := fun W (h : Prs W a cap ps) => raw_any a cap ps key W h hn
  have hz := Gz.new w
  have hP1 := hP.later hz.2
  unfold getL
  cases ho : rawL ps key with
  | none =>
    rw [ho] at hR
    have HR := Lib.hid hR
    have HZ := Lib.hid hz
    have HP := Lib.hid hP1
    clear hR ho hP hz hP1
    go_enter Try.func18, Try.ntmps18
    go_wp2_with fail
    refine (HR.out _ HP.out).mono ?_
    rintro e w1 ⟨rfl, hb⟩
    have hz1 := HZ.out.later hb
    have hz2 := hz1.later ((Below.refl _ w1).alloc (Nat.le_refl _) (.cells #[.int .i64 0, .string ⟨#[]⟩, .slice none 0 0, .slice none 0 0, .int .i64 0, .bool false] 36))
    obtain ⟨⟨c0, c1, c2, c3, c4, c5⟩, z0, z1, z2, z3, z4, z5⟩ := hz2.1.at
    have HS := Lib.hid (And.intro (hz2.1.store 0 [] none 0 0 none 0 0 0 false) (below_stGb hz2.2 (Nat.le_refl _) 0 [] none 0 0 none 0 0 0 false))
    clear hb hz1 hz2
    unfold gotv
    dsimp only [Option.getD_none, Li.zero, Option.isSome_none, List.length_nil]
    go_wp2
    exact bodyPost_ret (results_cell rfl rfl (loadGb HS.out.1)) rfl ⟨rfl, HS.out.2⟩
  | some i =>
    rw [ho] at hR
    obtain ⟨k, s, aF, fs, cF, aL, ws, cL, x⟩ := i
    have hA := fun W => refAlive_any k s aF fs.length cF aL ws.length cL x now W
    simp only [itv] at hA
    cases hal : (decide (x = 0) || decide (now < x)) with
    | false =>
      rw [hal] at hA
      have HQ := Lib.hid (show (some (⟨k, s, aF, fs, cF, aL, ws, cL, x⟩ : Li)).filter (fun i => decide (i.x = 0) || decide (now < i.x)) = none by rw [Option.filter_some, if_neg (by rw [hal]; simp)])
      have HA := Lib.hid hA
      have HR := Lib.hid hR
      have HZ := Lib.hid hz
      have HP := Lib.hid hP1
      clear hR ho hP hz hP1 hA hal
      go_enter Try.func18, Try.ntmps18
      go_wp2_with fail
      refine (HR.out _ HP.out).mono ?_
      rintro e w1 ⟨rfl, hb⟩
      have HZ1 := Lib.hid ((HZ.out.later hb).later ((Below.refl _ w1).alloc (Nat.le_refl _) (.cells #[.int .i64 k, .string ⟨s.toArray⟩, .slice aF fs.length cF, .slice aL ws.length cL, .int .i64 x, .bool true] 36)))
      clear hb
      unfold gotv
      dsimp only [Option.getD_some, Option.isSome_some]
      go_wp2_with fail
      refine (HA.out _).mono ?_
      rintro e w3 ⟨rfl, hb⟩
      have hz3 := HZ1.out.later hb
      obtain ⟨⟨c0, c1, c2, c3, c4, c5⟩, z0, z1, z2, z3, z4, z5⟩ := hz3.1.at
      have HS := Lib.hid (And.intro (hz3.1.store 0 [] none 0 0 none 0 0 0 false) (below_stGb hz3.2 (Nat.le_refl _) 0 [] none 0 0 none 0 0 0 false))
      clear hb hz3
      go_wp2
      exact bodyPost_ret (results_cell rfl rfl (loadGb HS.out.1)) rfl ⟨by rw [HQ.out]; rfl, HS.out.2⟩
    | true =>
      rw [hal] at hA
      have HQ := Lib.hid (show (some (⟨k, s, aF, fs, cF, aL, ws, cL, x⟩ : Li)).filter (fun i => decide (i.x = 0) || decide (now < i.x)) = some ⟨k, s, aF, fs, cF, aL, ws, cL, x⟩ by rw [Option.filter_some, if_pos (by rw [hal])])
      have HA := Lib.hid hA
      have HR := Lib.hid hR
      have HZ := Lib.hid hz
      have HP := Lib.hid hP1
      clear hR ho hP hz hP1 hA hal
      go_enter Try.func18, Try.ntmps18
      go_wp2_with fail
      refine (HR.out _ HP.out).mono ?_
      rintro e w1 ⟨rfl, hb⟩
      have HZ1 := Lib.hid ((HZ.out.later hb).later ((Below.refl _ w1).alloc (Nat.le_refl _) (.cells #[.int .i64 k, .string ⟨s.toArray⟩, .slice aF fs.length cF, .slice aL ws.length cL, .int .i64 x, .bool true] 36)))
      have HG1 : Hid (Gb (w1.alloc (.cells #[.int .i64 k, .string ⟨s.toArray⟩, .slice aF fs.length cF, .slice aL ws.length cL, .int .i64 x, .bool true] 36)) w1.heap.size k s aF fs.length cF aL ws.length cL x true) := Lib.hid (World.alloc_heap_new w1 _)
      clear hb
      unfold gotv
      dsimp only [Option.getD_some, Option.isSome_some]
      go_wp2_with fail
      refine (HA.out _).mono ?_
      rintro e w3 ⟨rfl, hb⟩
      have hz3 := HZ1.out.later hb
      obtain ⟨⟨g0, g1, g2, g3, g4, g5⟩, -⟩ := Gb.at ((hb.block _ HG1.out.lt).trans HG1.out)
      obtain ⟨⟨c0, c1, c2, c3, c4, c5⟩, z0, z1, z2, z3, z4, z5⟩ := hz3.1.at
      have HS := Lib.hid (And.intro (hz3.1.store k s aF fs.length cF aL ws.length cL x true) (below_stGb hz3.2 (Nat.le_refl _) k s aF fs.length cF aL ws.length cL x true))
      clear hb hz3
      go_wp2
      exact bodyPost_ret (results_cell rfl rfl (loadGb HS.out.1)) rfl ⟨by rw [HQ.out]; rfl, HS.out.2⟩
end Go.Proofs.Ytkmdpmkjcfccnaa
