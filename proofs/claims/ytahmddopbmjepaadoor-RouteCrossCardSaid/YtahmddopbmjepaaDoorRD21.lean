/- The contracts of awake, slot.One, caravanref1.One. -/
import Derived.Test.YtahmddopbmjepaaDoorRD03
import Derived.Test.YtahmddopbmjepaaDoorRD20
import Derived.Below
import Derived.Lib.SlBytesConst
import Derived.Lib.ConvBytes
import Derived.Laws.IdiomStrings
namespace Go.Proofs.YtahmddopbmjepaaDoor
open Go.RowKit

-- left out: awake_walk
/-- What is told of a slice of strings: so many cells hold these strings. -/
def Strs (w : World) (a : Option Addr) (cap : Nat) (ss : List ByteArray) : Prop :=
  ss.length ≤ cap ∧ (∀ s ∈ ss, s.size ≤ maxLen) ∧ (ss = [] ∨ ∃ b off, a = some ⟨b, off, none⟩ ∧ b < w.heap.size ∧ ∀ k, k < ss.length → w.cell? ⟨b, off + k, none⟩ = some (.string (ss.getD k ByteArray.empty)))

theorem Strs.later {w w' : World} {a : Option Addr} {cap : Nat} {ss : List ByteArray} (h : Strs w a cap ss) (hb : Below w.heap.size w w') : Strs w' a cap ss := by
  obtain ⟨h0, h1, h2⟩ := h
  refine ⟨h0, h1, ?_⟩
  rcases h2 with h2 | ⟨b, off, ha, hlt, hc⟩
  · exact .inl h2
  · exact .inr ⟨b, off, ha, Nat.lt_of_lt_of_le hlt hb.size, fun k hk => by rw [hb.cell (p := ⟨b, off + k, none⟩) hlt]; exact hc k hk⟩

theorem strs_none (w : World) : Strs w none 0 [] := ⟨Nat.le_refl _, fun s hs => by simp at hs, .inl rfl⟩

/-- the elements of a slice of strings that came in. -/
theorem strs_of (w : World) (x : Addr) (len cap : Nat) (ss : List ByteArray) (hl : len ≤ cap) (hm : cap ≤ maxLen) (hz : len ≤ ss.length)
    (hcell : ∀ i, i < ss.length → w.cell? (x.add i) = some (.string (ss.getD i ByteArray.empty))) (hws : ∀ s ∈ ss, s.size ≤ maxLen) :
    ∃ ts : List ByteArray, len = ts.length ∧ ts.length ≤ maxLen ∧ Strs w (some x) cap ts := by
  have hlen : (ss.take len).length = len := by simp; omega
  refine ⟨ss.take len, hlen.symm, by rw [hlen]; omega, by rw [hlen]; exact hl, fun s hs => hws s (List.mem_of_mem_take hs), ?_⟩
  by_cases h0 : len = 0
  · left; subst h0; simp
  · right
    obtain ⟨b, off, spot⟩ := x
    have hc := hcell 0 (by omega)
    have hspot : spot = none := by simpa [Addr.add] using World.cell?_spot hc
    subst hspot
    refine ⟨b, off, rfl, by simpa [Addr.add] using World.block_lt_of_cell? w _ hc, fun k hk => ?_⟩
    rw [hlen] at hk
    have := hcell k (by omega)
    have e : (ss.take len).getD k ByteArray.empty = ss.getD k ByteArray.empty := by simp [List.getD, hk]
    rw [e, ← this]
    by_cases hk0 : k = 0 <;> simp [Addr.add, hk0]

/-- a slice of strings that the call itself appended to. -/
theorem strs_owned {w : World} {base : Nat} {v : Value} {ss : List ByteArray} (h : w.ownsRow base 9 1 v ss.length (ss.map Value.string)) (h0 : 0 < ss.length) (hs : ∀ s ∈ ss, s.size ≤ maxLen) :
    ∃ g cap, v = .slice (some ⟨g, 0, none⟩) ss.length cap ∧ base ≤ g ∧ g < w.heap.size ∧ ss.length ≤ cap ∧ Strs w (some ⟨g, 0, none⟩) cap ss ∧ ∀ j, w.frozen? ⟨g, j, none⟩ = false := by
  obtain ⟨_, hcase⟩ := h
  rcases hcase with ⟨_, hz⟩ | ⟨g, cap, cur, hv, hgB, hgg, hnc, hcm, hcs, htk⟩
  · omega
  · have hlt : g < w.heap.size := (Array.getElem?_eq_some_iff.1 hgg).1
    refine ⟨g, cap, hv, hgB, hlt, hnc, ⟨hnc, hs, .inr ⟨g, 0, rfl, hlt, ?_⟩⟩, ?_⟩
    · intro k hk
      rw [Nat.zero_add, cell_of_row w g k cur 9 (0, 0) hgg]
      have e : (cur.toList.take (ss.length * 1))[k]? = cur[k]? := by
        rw [List.getElem?_take]; simp [hk]
      rw [← e, htk]
      simp [List.getD, hk]
    · intro j
      unfold World.frozen?
      simp [hgg]

/-- one element of a slice of strings is written. -/
theorem Strs.set {w : World} {g cap : Nat} {ss : List ByteArray} (h : Strs w (some ⟨g, 0, none⟩) cap ss) {j : Nat} (hj : j < ss.length) {s : ByteArray} (hs : s.size ≤ maxLen) :
    Strs (w.setCell ⟨g, j, none⟩ (.string s)) (some ⟨g, 0, none⟩) cap (ss.set j s) := by
  obtain ⟨h0, h1, h2⟩ := h
  refine ⟨by simpa using h0, ?_, ?_⟩
  · intro x hx
    rcases List.mem_or_eq_of_mem_set hx with hm | hm
    · exact h1 x hm
    · rw [hm]; exact hs
  · rcases h2 with h2 | ⟨b, off, hb, hlt, hc⟩
    · subst h2; simp at hj
    · simp at hb
      obtain ⟨rfl, rfl⟩ := hb
      refine .inr ⟨g, 0, rfl, by simpa using hlt, ?_⟩
      intro k hk
      rw [List.length_set] at hk
      rw [Nat.zero_add]
      have hck := hc k hk
      rw [Nat.zero_add] at hck
      by_cases hkj : k = j
      · subst hkj
        have e : (ss.set k s).getD k ByteArray.empty = s := by simp [List.getD, hk]
        rw [e]
        exact World.cell?_setCell_same _ _ _ hck
      · have e : (ss.set j s).getD k ByteArray.empty = ss.getD k ByteArray.empty := by
          simp only [List.getD, List.getElem?_set]
          rw [if_neg (fun h => hkj h.symm)]
        rw [e, World.cell?_setCell_other _ _ _ _ (by first | (simp; done) | (simp; omega))]
        exact hck

theorem getD_size {ss : List ByteArray} (h : ∀ s ∈ ss, s.size ≤ maxLen) (k : Nat) (hk : k < ss.length) : (ss.getD k ByteArray.empty).size ≤ maxLen := by
  have : ss.getD k ByteArray.empty = ss[k] := by simp [List.getD, hk]
  rw [this]
  exact h _ (List.getElem_mem hk)

/-- the slot of all keys, if they share one. -/
def oneOf : List ByteArray → Option Nat
  | [] => none
  | k :: r => if r.all (fun x => slotOf x.data.toList == slotOf k.data.toList) then some (slotOf k.data.toList) else none

theorem one_nil (a : Option Addr) (cap : Nat) (w : World) :
    Calls Tryd.prog 26 #[.slice a 0 cap] w fun e w' => e = .returned (.tuple #[.int .i64 0, .bool false]) ∧ w = w' := by
  go_enter Tryd.func26, Tryd.ntmps26
  go_wp2
  go_ret2
  exact ⟨rfl, rfl⟩

set_option maxHeartbeats 400000 in
theorem one_one (b off cap : Nat) (k : ByteArray) (w : World) (hcap : 1 ≤ cap) (hk : k.size ≤ maxLen) (hc : w.cell? ⟨b, off, none⟩ = some (.string k)) :
    Calls Tryd.prog 26 #[.slice (some ⟨b, off, none⟩) 1 cap] w fun e w' => e = .returned (.tuple #[.int .i64 (slotOf k.data.toList), .bool true]) ∧ Below w.heap.size w w' := by
  by_cases h1 : cap = 1
  all_goals
    try subst h1
    go_enter Tryd.func26, Tryd.ntmps26
    go_wp2_with fail
    refine (of_walk k _ hk).mono ?_
    rintro e w1 ⟨rfl, hb⟩
    have HB := Lib.hid hb
    clear hb hc
    go_wp2_with fail
    go_loop [2, 3, 5, 16] (fun r o _ n => r = .int .i64 (slotOf k.data.toList) ∧ o = .bool false ∧ n = .int .i64 0) (fun _ _ _ _ => 0)
    case atStart => exact ⟨rfl, rfl, rfl⟩
    case round =>
      obtain ⟨rfl, rfl, rfl⟩ := hrel
      go_wp2
      go_ret2
      exact ⟨rfl, HB.out⟩

theorem all_same {ss : List ByteArray} {h0 : 0 < ss.length} (h : ∀ j, j + 1 < ss.length → slotOf (ss.getD (j + 1) ByteArray.empty).data.toList = slotOf (ss.getD 0 ByteArray.empty).data.toList) :
    oneOf ss = some (slotOf (ss.getD 0 ByteArray.empty).data.toList) := by
  cases ss with
  | nil => simp at h0
  | cons k r =>
    show (if _ then _ else _) = _
    rw [if_pos]
    · simp
    · rw [List.all_eq_true]
      intro x hx
      obtain ⟨j, hj, rfl⟩ := List.mem_iff_getElem.1 hx
      have := h j (by simp; omega)
      simp [List.getD, hj] at this
      simpa using this

theorem one_other {ss : List ByteArray} {j : Nat} (hj : j + 1 < ss.length) (h : slotOf (ss.getD (j + 1) ByteArray.empty).data.toList ≠ slotOf (ss.getD 0 ByteArray.empty).data.toList) :
    oneOf ss = none := by
  cases ss with
  | nil => simp at hj
  | cons k r =>
    show (if _ then _ else _) = _
    rw [if_neg]
    rw [List.all_eq_true]
    intro hall
    have hj' : j < r.length := by simpa using hj
    have := hall r[j] (List.getElem_mem hj')
    simp [List.getD, hj'] at h
    simp at this
    exact h this

/-- what slot.One hands back. -/
def oneVal (o : Option Nat) : Value :=
  match o with
  | some n => .tuple #[.int .i64 n, .bool true]
  | none => .tuple #[.int .i64 0, .bool false]

set_option maxHeartbeats 1000000 in
theorem one_many (b off cap : Nat) (ss : List ByteArray) (w : World) (h2 : 2 ≤ ss.length) (hlen : ss.length ≤ 9223372036854775807) (hcap : ss.length ≤ cap) (hk : ∀ s ∈ ss, s.size ≤ maxLen) (hb : b < w.heap.size)
    (hc : ∀ k, k < ss.length → w.cell? ⟨b, off + k, none⟩ = some (.string (ss.getD k ByteArray.empty))) :
    Calls Tryd.prog 26 #[.slice (some ⟨b, off, none⟩) ss.length cap] w fun e w' => e = .returned (oneVal (oneOf ss)) ∧ Below w.heap.size w w' := by
  have hc0 : w.cell? ⟨b, off, none⟩ = some (.string (ss.getD 0 ByteArray.empty)) := hc 0 (by omega)
  have hk0 := getD_size hk 0 (by omega)
  have hne : ((ss.length : Int) == 0) = false := by rw [beq_eq_false_iff_ne]; omega
  have hcap2 : ¬ cap = 1 := by omega
  have hpos : (0 : Int) < (ss.length : Int) := by omega
  generalize hk1 : ss.getD 0 ByteArray.empty = k0 at hc0 hk0
  have HK := Lib.hid hk1
  have HC := Lib.hid hc
  have HA := Lib.hid (@all_same ss (by omega))
  have HO := Lib.hid (fun j hj h => @one_other ss j hj h)
  have HS := Lib.hid hk
  clear hk1 hc hk
  go_enter Tryd.func26, Tryd.ntmps26
  go_wp2_with fail
  refine (of_walk k0 _ hk0).mono ?_
  rintro e w1 ⟨rfl, hb1⟩
  have HB := Lib.hid hb1
  clear hb1 hc0
  go_wp2_with fail
  go_loopw [2, 3, 5, 16] (fun r o _ n wr => ∃ m : Nat, m + 1 ≤ ss.length ∧ r = .int .i64 (slotOf k0.data.toList) ∧ o = .bool false ∧ n = .int .i64 m ∧ Hid (Below w.heap.size w wr) ∧ Hid (∀ j, j < m → slotOf (ss.getD (j + 1) ByteArray.empty).data.toList = slotOf k0.data.toList)) (fun _ _ _ n _ => ss.length - (intOf n).toNat)
  case atStart => exact ⟨0, by omega, rfl, rfl, rfl, HB, Lib.hid (fun j hj => absurd hj (Nat.not_lt_zero _))⟩
  case round =>
    obtain ⟨m, hm, rfl, rfl, rfl, HW, HM⟩ := hrel
    by_cases hlt : m + 1 < ss.length
    · have hcell : wr.cell? ⟨b, off + 1 + m, none⟩ = some (.string (ss.getD (m + 1) ByteArray.empty)) := by
        rw [HW.out.cell (p := ⟨b, off + 1 + m, none⟩) hb, show off + 1 + m = off + (m + 1) from by omega]
        exact HC.out (m + 1) hlt
      have hsz := getD_size HS.out (m + 1) hlt
      generalize hkm : ss.getD (m + 1) ByteArray.empty = km at hcell hsz
      have HKM := Lib.hid hkm
      clear hkm
      have hlt' : m < ss.length - 1 := by omega
      go_wp2_with fail
      refine (of_walk km _ hsz).mono ?_
      rintro e w2 ⟨rfl, hb2⟩
      have HB2 := Lib.hid hb2
      clear hb2 hcell
      by_cases he : slotOf km.data.toList = slotOf k0.data.toList
      · have hq : ((slotOf km.data.toList : Int) != (slotOf k0.data.toList : Int)) = false := by rw [he]; simp
        have HE := Lib.hid he
        clear he
        go_wp2
        go_roundw
        case rel =>
          refine ⟨m + 1, by omega, rfl, rfl, by go_num, Lib.hid (HW.out.trans (HB2.out.mono HW.out.size)), Lib.hid ?_⟩
          intro j hj
          by_cases hjm : j = m
          · subst hjm; rw [HKM.out]; exact HE.out
          · exact HM.out j (by omega)
        case measure => simp [intOf]; omega
      · have hq : ((slotOf km.data.toList : Int) != (slotOf k0.data.toList : Int)) = true := by rw [bne_iff_ne]; omega
        have hv : oneOf ss = none := HO.out m (by omega) (by rw [HKM.out, HK.out]; exact he)
        have HV := Lib.hid hv
        clear he hv
        go_wp2
        go_ret2
        refine ⟨?_, HW.out.trans (HB2.out.mono HW.out.size)⟩
        rw [HV.out]
        rfl
    · have hlt' : ¬ m < ss.length - 1 := by omega
      have hv : oneOf ss = some (slotOf k0.data.toList) := by
        rw [HA.out, HK.out]
        intro j hj
        rw [HK.out]
        exact HM.out j (by omega)
      have HV := Lib.hid hv
      clear hv
      go_wp2
      go_ret2
      refine ⟨?_, HW.out⟩
      rw [HV.out]
      rfl

theorem one_any (a : Option Addr) (cap : Nat) (ss : List ByteArray) (w : World) (hlen : ss.length ≤ 9223372036854775807) (h : Strs w a cap ss) :
    Calls Tryd.prog 26 #[.slice a ss.length cap] w fun e w' => e = .returned (oneVal (oneOf ss)) ∧ Below w.heap.size w w' := by
  obtain ⟨h0, h1, h2⟩ := h
  rcases h2 with rfl | ⟨b, off, rfl, hb, hc⟩
  · exact (one_nil a cap w).mono fun e w' ⟨he, hw⟩ => ⟨he, hw ▸ Below.refl _ _⟩
  · match ss, h0, h1, hlen, hc with
    | [], _, _, _, _ => exact (one_nil _ cap w).mono fun e w' ⟨he, hw⟩ => ⟨he, hw ▸ Below.refl _ _⟩
    | [k], h0, h1, hlen, hc => exact one_one b off cap k w (by simpa using h0) (h1 k (by simp)) (hc 0 (by simp))
    | k :: k2 :: r, h0, h1, hlen, hc => exact one_many b off cap (k :: k2 :: r) w (by simp) hlen h0 h1 hb hc

/-- what the reference's One hands back. -/
def refOneVal (o : Option Nat) : Int :=
  match o with
  | some n => n
  | none => -1

theorem refOne_nil (a : Option Addr) (cap : Nat) (w : World) :
    Calls Tryd.prog 30 #[.slice a 0 cap] w fun e w' => e = .returned (.int .i64 (-1)) ∧ w = w' := by
  go_enter Tryd.func30, Tryd.ntmps30
  go_wp2
  go_ret
  exact ⟨rfl, rfl⟩

set_option maxHeartbeats 1000000 in
theorem refOne_some (b off cap : Nat) (ss : List ByteArray) (w : World) (h2 : 1 ≤ ss.length) (hlen : ss.length ≤ 9223372036854775807) (hk : ∀ s ∈ ss, s.size ≤ maxLen)
    (hc : ∀ k, k < ss.length → w.cell? ⟨b, off + k, none⟩ = some (.string (ss.getD k ByteArray.empty))) :
    Calls Tryd.prog 30 #[.slice (some ⟨b, off, none⟩) ss.length cap] w fun e w' => e = .returned (.int .i64 (refOneVal (oneOf ss))) ∧ w = w' := by
  have hc0 : w.cell? ⟨b, off, none⟩ = some (.string (ss.getD 0 ByteArray.empty)) := hc 0 (by omega)
  have hk0 := getD_size hk 0 (by omega)
  have hne : ((ss.length : Int) == 0) = false := by rw [beq_eq_false_iff_ne]; omega
  have hpos : (0 : Int) < (ss.length : Int) := by omega
  generalize hk1 : ss.getD 0 ByteArray.empty = k0 at hc0 hk0
  have HK := Lib.hid hk1
  have HC := Lib.hid hc
  have HA := Lib.hid (@all_same ss (by omega))
  have HO := Lib.hid (fun j hj h => @one_other ss j hj h)
  have HS := Lib.hid hk
  clear hk1 hc hk
  go_enter Tryd.func30, Tryd.ntmps30
  go_wp2_with fail
  refine (refSlot_walk k0 _ hk0).mono ?_
  rintro e w1 ⟨rfl, rfl⟩
  clear hc0
  go_wp2_with fail
  go_loop [2, 4] (fun r n => ∃ m : Nat, m + 1 ≤ ss.length ∧ r = .int .i64 0 ∧ n = .int .i64 (m + 1 : Nat) ∧ Hid (∀ j, j < m → slotOf (ss.getD (j + 1) ByteArray.empty).data.toList = slotOf k0.data.toList)) (fun _ n => ss.length - (intOf n).toNat)
  case atStart => exact ⟨0, by omega, rfl, rfl, Lib.hid (fun j hj => absurd hj (Nat.not_lt_zero _))⟩
  case round =>
    obtain ⟨m, hm, rfl, rfl, HM⟩ := hrel
    by_cases hlt : m + 1 < ss.length
    · have hcell : w.cell? ⟨b, off + (m + 1), none⟩ = some (.string (ss.getD (m + 1) ByteArray.empty)) := HC.out (m + 1) hlt
      have hsz := getD_size HS.out (m + 1) hlt
      generalize hkm : ss.getD (m + 1) ByteArray.empty = km at hcell hsz
      have HKM := Lib.hid hkm
      clear hkm
      go_wp2_with fail
      refine (refSlot_walk km _ hsz).mono ?_
      rintro e w2 ⟨rfl, rfl⟩
      clear hcell
      by_cases he : slotOf km.data.toList = slotOf k0.data.toList
      · have hq : ((slotOf km.data.toList : Int) != (slotOf k0.data.toList : Int)) = false := by rw [he]; simp
        have HE := Lib.hid he
        clear he
        go_wp2
        go_round
        case rel =>
          refine ⟨m + 1, by omega, rfl, by go_num, Lib.hid ?_⟩
          intro j hj
          by_cases hjm : j = m
          · subst hjm; rw [HKM.out]; exact HE.out
          · exact HM.out j (by omega)
        case measure => simp [intOf]; omega
      · have hq : ((slotOf km.data.toList : Int) != (slotOf k0.data.toList : Int)) = true := by rw [bne_iff_ne]; omega
        have hv : oneOf ss = none := HO.out m (by omega) (by rw [HKM.out, HK.out]; exact he)
        have HV := Lib.hid hv
        clear he hv
        go_wp2
        go_ret
        refine ⟨?_, rfl⟩
        rw [HV.out]
        rfl
    · have hv : oneOf ss = some (slotOf k0.data.toList) := by
        rw [HA.out, HK.out]
        intro j hj
        rw [HK.out]
        exact HM.out j (by omega)
      have HV := Lib.hid hv
      clear hv
      go_wp2
      go_ret
      refine ⟨?_, rfl⟩
      rw [HV.out]
      rfl

theorem refOne_any (a : Option Addr) (cap : Nat) (ss : List ByteArray) (w : World) (hlen : ss.length ≤ 9223372036854775807) (h : Strs w a cap ss) :
    Calls Tryd.prog 30 #[.slice a ss.length cap] w fun e w' => e = .returned (.int .i64 (refOneVal (oneOf ss))) ∧ w = w' := by
  obtain ⟨h0, h1, h2⟩ := h
  rcases h2 with rfl | ⟨b, off, rfl, hb, hc⟩
  · exact refOne_nil a cap w
  · match ss, h0, h1, hlen, hc with
    | [], _, _, _, _ => exact refOne_nil _ cap w
    | k2 :: r, h0, h1, hlen, hc => exact refOne_some b off cap (k2 :: r) w (by simp) hlen h1 hc
end Go.Proofs.YtahmddopbmjepaaDoor
