/- Texts that are no numbers' replies. No program in it. -/
import Derived.Test.YtcjbfgkmpoebgaaDoorRpEnc
namespace Go.Proofs.YtcjbfgkmpoebgaaDoor
namespace Rp

theorem lead_app' {L : List UInt8} {x : UInt8} {t : List UInt8} (hL : ∀ c ∈ L, numC.contains c = true) (hx : numC.contains x = false) : lead (L ++ x :: t) = L.take 20 := by
  by_cases h : L.length ≤ 20
  · rw [lead_app hL h hx, List.take_of_length_le h]
  · unfold lead
    rw [List.take_append_of_le_length (by omega)]
    exact takeWhile_self _ (fun c hc => hL c (List.mem_of_mem_take hc))
theorem devP_bad' {lo hi : Int} {L : List UInt8} {x : UInt8} {t : List UInt8} (hL : ∀ c ∈ L, numC.contains c = true) (hx : numC.contains x = false) (h : ∀ v, Dig.dec v = L.take 20 → ¬ (lo ≤ v ∧ v ≤ hi)) :
    devP lo hi (L ++ x :: t) = .err 5 := by
  unfold devP
  rw [lead_app' hL hx, if_neg (fun h => by
    have := h.2
    simp at this
    omega)]
  cases ha : Lib.atoiAll (L.take 20) with
  | ok v =>
    simp only
    rw [if_neg (fun hh => h v hh.1 hh.2)]
  | «syntax» => rfl
  | range => rfl

theorem digs_head0 (u : Nat) (h : (Dig.digs u).getD 0 0 = 48) : u = 0 := by
  induction u using Nat.strongRecOn with
  | _ u ih =>
    by_cases hu : u < 10
    · rw [Dig.digs_small hu] at h
      have e := Tx.ofNat_digit hu
      have h2 : (UInt8.ofNat (48 + u)) = 48 := by simpa using h
      rw [h2] at e
      have : (48 : UInt8).toNat = 48 := rfl
      omega
    · rw [Dig.digs_step hu] at h
      have hne := Tx.digs_ne (u / 10)
      have h2 : (Dig.digs (u / 10)).getD 0 0 = 48 := by
        cases hd : Dig.digs (u / 10) with
        | nil => exact absurd hd hne
        | cons c r => rw [hd] at h; simpa using h
      have := ih (u / 10) (by omega) h2
      omega
/-- a decimal that begins with a minus is below nought. -/
theorem dec_minus {v : Int} {r : List UInt8} (h : Dig.dec v = 45 :: r) : v < 0 ∧ Dig.digs (-v).toNat = r := by
  unfold Dig.dec at h
  split at h
  · rename_i hn
    simp only [List.cons.injEq, true_and] at h
    exact ⟨hn, h⟩
  · obtain ⟨c, q, hc, c0, c1⟩ := digs_cons v.toNat
    rw [hc] at h
    simp only [List.cons.injEq] at h
    rw [h.1] at c0
    exact absurd c0 (by decide)
theorem dec_plus {v : Int} {c : UInt8} {r : List UInt8} (h : Dig.dec v = c :: r) (hc : c ≠ 45) : 0 ≤ v ∧ Dig.digs v.toNat = c :: r := by
  unfold Dig.dec at h
  split at h
  · simp only [List.cons.injEq] at h
    exact absurd h.1.symm hc
  · exact ⟨by omega, h⟩
theorem digs_inj {a b : Nat} (h : Dig.digs a = Dig.digs b) : a = b := by
  have h1 := (Tx.digs_val a).1
  rw [h, (Tx.digs_val b).1] at h1
  exact h1.symm

def reply5 (bs : List UInt8) : Prop := replyD 8 bs = .err 5
theorem int_bad {bs : List UInt8} (h : devP (-9223372036854775808) 9223372036854775807 bs = .err 5) : reply5 (58 :: bs) := by
  show (devP _ _ bs).map _ = _
  rw [h]
  rfl
theorem numC_all {L : List UInt8} (h : L.all (fun c => numC.contains c) = true) : ∀ c ∈ L, numC.contains c = true := List.all_eq_true.1 h
theorem numC_append {a : List UInt8} {n : Int} (h : a.all (fun c => numC.contains c) = true) : ∀ c ∈ a ++ Dig.dec n, numC.contains c = true := fun c hc => by
  rcases List.mem_append.1 hc with hc | hc
  · exact numC_all h c hc
  · exact dec_numC hc

theorem bad0 (n : Int) : reply5 (58 :: 48 :: (Dig.dec n ++ [13, 10])) := by
  refine int_bad ?_
  have := devP_bad' (lo := -9223372036854775808) (hi := 9223372036854775807) (L := 48 :: Dig.dec n) (x := 13) (t := [10]) (numC_append (a := [48]) (n := n) (by decide)) (by decide) (fun v hv => by
    exfalso
    cases hd : Dig.dec n with
    | nil => exact dec_ne n hd
    | cons c r =>
      rw [hd] at hv
      obtain ⟨h0, h1⟩ := dec_plus (c := 48) (r := (c :: r).take 19) hv (by decide)
      have h2 := digs_head0 _ (by rw [h1]; rfl)
      rw [h2, Dig.digs_small (by decide)] at h1
      simp at h1)
  exact this
theorem bad1 (t : List UInt8) : reply5 (58 :: 43 :: t) :=
  int_bad (devP_bad' (L := []) (by simp) (by decide) (fun v hv => absurd hv (dec_ne v)))
theorem bad2 (n : Int) (h0 : -9223372036854775808 ≤ n) (h1 : n ≤ 9223372036854775807) : reply5 (58 :: (Dig.dec n ++ [32, 13, 10])) := by
  refine int_bad ?_
  rw [devP_dec h0 h1 h0 h1 (x := 32) (by decide), textP_bad _ _ _ (by decide)]
  rfl
theorem bad3 : reply5 [58, 13, 10] :=
  int_bad (devP_bad' (L := []) (x := 13) (by simp) (by decide) (fun v hv => absurd hv (dec_ne v)))
theorem bad4 : reply5 [58, 45, 13, 10] :=
  int_bad (devP_bad' (L := [45]) (x := 13) (numC_all (by decide)) (by decide) (fun v hv => absurd hv (dec_ne_minus v)))
theorem bad5 : reply5 [58, 45, 45, 49, 13, 10] :=
  int_bad (devP_bad' (L := [45, 45, 49]) (x := 13) (numC_all (by decide)) (by decide) (fun v hv => by
    exfalso
    obtain ⟨_, h⟩ := dec_minus (r := [45, 49]) hv
    obtain ⟨c, q, hc, c0, c1⟩ := digs_cons (-v).toNat
    rw [hc] at h
    simp only [List.cons.injEq] at h
    rw [h.1] at c0
    exact absurd c0 (by decide)))
theorem bad6 : reply5 [58, 45, 48, 13, 10] :=
  int_bad (devP_bad' (L := [45, 48]) (x := 13) (numC_all (by decide)) (by decide) (fun v hv => by
    exfalso
    obtain ⟨hn, h⟩ := dec_minus (r := [48]) hv
    have := digs_head0 _ (by rw [h]; rfl)
    omega))
theorem bad7 : reply5 [58, 57, 50, 50, 51, 51, 55, 50, 48, 51, 54, 56, 53, 52, 55, 55, 53, 56, 48, 56, 13, 10] :=
  int_bad (devP_bad' (L := [57, 50, 50, 51, 51, 55, 50, 48, 51, 54, 56, 53, 52, 55, 55, 53, 56, 48, 56]) (x := 13) (numC_all (by decide)) (by decide) (fun v hv => by
    obtain ⟨h0, h1⟩ := dec_plus (c := 57) (r := [50, 50, 51, 51, 55, 50, 48, 51, 54, 56, 53, 52, 55, 55, 53, 56, 48, 56]) hv (by decide)
    have h2 := (Tx.digs_val v.toNat).1
    rw [h1] at h2
    have h3 : Tx.valD [57, 50, 50, 51, 51, 55, 50, 48, 51, 54, 56, 53, 52, 55, 55, 53, 56, 48, 56] = 9223372036854775808 := by decide
    rw [h3] at h2
    omega))
theorem bad8 : reply5 [58, 45, 57, 50, 50, 51, 51, 55, 50, 48, 51, 54, 56, 53, 52, 55, 55, 53, 56, 48, 57, 13, 10] :=
  int_bad (devP_bad' (L := [45, 57, 50, 50, 51, 51, 55, 50, 48, 51, 54, 56, 53, 52, 55, 55, 53, 56, 48, 57]) (x := 13) (numC_all (by decide)) (by decide) (fun v hv => by
    obtain ⟨h0, h1⟩ := dec_minus (r := [57, 50, 50, 51, 51, 55, 50, 48, 51, 54, 56, 53, 52, 55, 55, 53, 56, 48, 57]) hv
    have h2 := (Tx.digs_val (-v).toNat).1
    rw [h1] at h2
    have h3 : Tx.valD [57, 50, 50, 51, 51, 55, 50, 48, 51, 54, 56, 53, 52, 55, 55, 53, 56, 48, 57] = 9223372036854775809 := by decide
    rw [h3] at h2
    omega))
theorem bad9 (n : Int) (h0 : -9223372036854775808 ≤ n) (h1 : n ≤ 9223372036854775807) : reply5 (58 :: (Dig.dec n ++ [10])) := by
  refine int_bad ?_
  rw [devP_dec h0 h1 h0 h1 (x := 10) (by decide), textP_bad _ _ _ (by decide)]
  rfl
theorem bad10 (m : Int) (h0 : 2 ≤ m) (h1 : m ≤ 9223372036854775807) : reply5 (36 :: 45 :: (Dig.dec m ++ [13, 10])) := by
  have hd : devP (-1) 1048576 ((45 :: Dig.dec m) ++ 13 :: [10]) = .err 5 := devP_bad' (numC_append (a := [45]) (n := m) (by decide)) (by decide) (fun v hv => by
    have hl : (45 :: Dig.dec m).length ≤ 20 := by
      have : (Dig.dec m).length ≤ 19 := by
        unfold Dig.dec
        rw [if_neg (by omega)]
        exact Dig.digs_len20 (by omega)
      simp only [List.length_cons]; omega
    rw [List.take_of_length_le hl] at hv
    obtain ⟨hn, h2⟩ := dec_minus hv
    have e : Dig.dec m = Dig.digs m.toNat := by unfold Dig.dec; rw [if_neg (by omega)]
    rw [e] at h2
    have := digs_inj h2
    omega)
  show bulkD ((45 :: Dig.dec m) ++ 13 :: [10]) = _
  unfold bulkD
  rw [hd]
  rfl
theorem bad11 : reply5 [42, 45, 49, 13, 10] := by
  have hd : devP 0 65536 ([45, 49] ++ 13 :: [10]) = .err 5 := devP_bad' (numC_all (by decide)) (by decide) (fun v hv => by
    obtain ⟨hn, _⟩ := dec_minus (r := [49]) hv
    omega)
  show arrD (replyD 7) ([45, 49] ++ 13 :: [10]) = _
  unfold arrD
  rw [hd]
  rfl
end Rp
end Go.Proofs.YtcjbfgkmpoebgaaDoor
