/- The contract of strings.SplitSeq at one byte: the pieces between, one by one. -/
import Derived.Test.YtlbmkgnfbkimaaaDoorSeqVal
import Derived.Test.YtlbmkgnfbkimaaaDoorCutOne
namespace Go.Proofs.YtlbmkgnfbkimaaaDoor
open Go.RowKit Go.Shelf
attribute [local go_sem] Oper.semAt_some

/-- the pieces of a text between the bytes c. -/
def splitL (c : UInt8) : List UInt8 → List (List UInt8)
  | [] => [[]]
  | x :: r => if x = c then [] :: splitL c r else match splitL c r with | [] => [[x]] | p :: ps => (x :: p) :: ps

theorem splitL_ne (c : UInt8) (l : List UInt8) : splitL c l ≠ [] := by
  cases l with
  | nil => simp [splitL]
  | cons x r =>
    unfold splitL
    split
    · simp
    · split <;> simp

theorem splitL_none {c : UInt8} : ∀ {l : List UInt8}, Tags.split c l = none → splitL c l = [l]
  | [], _ => rfl
  | x :: r, h => by
    by_cases hx : x = c
    · simp [Tags.split, hx] at h
    · have hr : Tags.split c r = none := by simpa [Tags.split, hx] using h
      rw [splitL, if_neg hx, splitL_none hr]

theorem splitL_some {c : UInt8} : ∀ {l a b : List UInt8}, Tags.split c l = some (a, b) → splitL c l = a :: splitL c b
  | [], a, b, h => by simp [Tags.split] at h
  | x :: r, a, b, h => by
    by_cases hx : x = c
    · simp [Tags.split, hx] at h
      obtain ⟨rfl, rfl⟩ := h
      rw [splitL, if_pos hx]
    · simp only [Tags.split, if_neg hx, Option.map_eq_some_iff] at h
      obtain ⟨⟨a', b'⟩, h1, h2⟩ := h
      simp at h2
      obtain ⟨rfl, rfl⟩ := h2
      rw [splitL, if_neg hx, splitL_some h1]

theorem splitL_len (c : UInt8) : ∀ l : List UInt8, (splitL c l).length ≤ l.length + 1
  | [] => by simp [splitL]
  | x :: r => by
    have ih := splitL_len c r
    unfold splitL
    split
    · simp; omega
    · split
      · simp
      · rename_i p ps h
        rw [h] at ih
        simp at ih ⊢
        omega

/-- a text of no more than so many bytes. -/
abbrev T := { x : List UInt8 // x.length ≤ 1000000 }

/-- a piece as yield takes it. -/
def encT (x : T) : Array Value := #[.string ⟨x.1.toArray⟩]

set_option maxHeartbeats 1000000 in
theorem splitSeq_any (s : ByteArray) (c : UInt8) (w : World) :
    CallsIn Fence.wide 0 Tryd.prog 45 #[.string s, .string ⟨#[c]⟩] w fun e w' =>
      e = .returned (.func (.func 70) #[] #[.pointer (some ⟨w.heap.size + 1, 0, none⟩), .pointer (some ⟨w.heap.size, 0, none⟩), .pointer (some ⟨w.heap.size + 1 + 1, 0, none⟩)]) ∧
      w' = ((w.alloc (.cells #[.string s] 9)).alloc (.cells #[.string ⟨#[c]⟩] 9)).alloc (.cells #[.int .i64 0] 3) := by
  have hin : CallsIn Fence.wide 0 Tryd.prog 57 #[.string s, .string ⟨#[c]⟩, .int .i64 0] w fun e w' =>
      e = .returned (.func (.func 70) #[] #[.pointer (some ⟨w.heap.size + 1, 0, none⟩), .pointer (some ⟨w.heap.size, 0, none⟩), .pointer (some ⟨w.heap.size + 1 + 1, 0, none⟩)]) ∧
      w' = ((w.alloc (.cells #[.string s] 9)).alloc (.cells #[.string ⟨#[c]⟩] 9)).alloc (.cells #[.int .i64 0] 3) := by
    refine callsIn_of_wp Tryd.func57 rfl trivial ?_ rfl
    simp only [Tryd.ntmps57, List.size_toArray, List.length_cons, List.length_nil, Nat.reduceAdd, Nat.reduceSub, Array.replicate_succ, Array.replicate_zero, List.push_toArray, List.append_toArray, List.nil_append, List.cons_append]
    gi_wp2
    go_ret
    exact ⟨rfl, rfl⟩
  refine callsIn_of_wp Tryd.func45 rfl trivial ?_ rfl
  simp only [Tryd.ntmps45, List.size_toArray, List.length_cons, List.length_nil, Nat.reduceAdd, Nat.reduceSub, Array.replicate_succ, Array.replicate_zero, List.push_toArray, List.append_toArray, List.nil_append, List.cons_append]
  gi_wp2_with (refine ⟨trivial, rfl, ?_⟩; refine hin.mono ?_; rintro e w1 ⟨rfl, rfl⟩)
  go_ret
  exact ⟨rfl, rfl⟩

/-- how much of the text is left, off the world. -/
def strLeft (B : Nat) (W : World) : Nat := match W.cell? ⟨B, 0, none⟩ with | some (.string s) => s.size | _ => 0

theorem strLeft_eq {B : Nat} {W : World} {s : ByteArray} (h : W.cell? ⟨B, 0, none⟩ = some (.string s)) : strLeft B W = s.size := by unfold strLeft; rw [h]

set_option maxRecDepth 100000 in
set_option maxHeartbeats 4000000 in
theorem split_seq (Bs Bp B0 : Nat) (s : ByteArray) (c : UInt8) (w : World) (hs : s.size ≤ 1000000) (hd : Bs ≠ Bp ∧ Bs ≠ B0) (hBs : Bs < w.heap.size) (hBp : Bp < w.heap.size) (hB0 : B0 < w.heap.size)
    (h1 : Boxed w Bs 9 (.string s)) (h2 : Boxed w Bp 9 (.string ⟨#[c]⟩)) (h3 : Boxed w B0 3 (.int .i64 0)) (Dt Pv : Nat → Prop) (hDp : Dt Bp) (hD0 : Dt B0) (hPs : Pv Bs) :
    SeqT true Tryd.prog 70 #[.pointer (some ⟨Bp, 0, none⟩), .pointer (some ⟨Bs, 0, none⟩), .pointer (some ⟨B0, 0, none⟩)] encT Dt Pv (fun ys => ys.map (·.1) = splitL c s.data.toList) (fun ys => ys.map (·.1) <+: splitL c s.data.toList) (splitL c s.data.toList).length w := by
  intro l J Jx W hW hJ hJx _ hY h0
  have k1 : Boxed W Bs 9 (.string s) := (hW.block Bs hBs).trans h1
  have k2 : Boxed W Bp 9 (.string ⟨#[c]⟩) := (hW.block Bp hBp).trans h2
  have k3 : Boxed W B0 3 (.int .i64 0) := (hW.block B0 hB0).trans h3
  have c2 := k2.cell
  refine callsIn_of_wp Tryd.func70 rfl trivial ?_ rfl
  simp only [Tryd.ntmps70, List.size_toArray, List.length_cons, List.length_nil, Nat.reduceAdd, Nat.reduceSub, Array.replicate_succ, Array.replicate_zero, List.push_toArray, List.append_toArray, List.nil_append, List.cons_append]
  have hlen1 : (⟨#[c]⟩ : ByteArray).size = 1 := rfl
  gi_wp2
  gi_loopw [7] (fun _ wr => ∃ (sv : ByteArray) (O : Nat → Prop) (pre : List T), Boxed wr Bs 9 (.string sv) ∧ sv.size ≤ 1000000 ∧ splitL c s.data.toList = pre.map (·.1) ++ splitL c sv.data.toList ∧ (∀ k, O k → W.heap.size ≤ k ∧ k < wr.heap.size) ∧ J O pre wr ∧ Keeps (fun k => k = Bp ∨ k = B0) W wr)
    (fun _ wr => strLeft Bs wr)
  case atStart => exact ⟨s, fun _ => False, [], k1, hs, by simp, fun _ h => h.elim, h0, Keeps.refl _ _⟩
  case round =>
    obtain ⟨sv, O, pre, hb, hsv, hpre, hO, hJs, hK⟩ := hrel
    have b1 := hb.cell
    have b2 := hb.frozen
    have p2 : Boxed wr Bp 9 (.string ⟨#[c]⟩) := hK.heap k2 (.inl rfl)
    have p3 : Boxed wr B0 3 (.int .i64 0) := hK.heap k3 (.inr rfl)
    have d2 := p2.cell
    have d3 := p3.cell
    have hix := (callsIn_wide (n := 0)).2 (Tryd.strings_Index_one sv c wr)
    have HPRE := Lib.hid hpre
    have hsz := hK.size
    clear c2 hpre
    cases hsp : Tags.split c sv.data.toList with
    | none =>
      have HI := Lib.hid (Tags.split_none hsp).2
      have HSP := Lib.hid (splitL_none hsp)
      rw [HI.out] at hix
      obtain ⟨fn, tmps, assign, body, hy, hR⟩ := hY O pre ⟨sv.data.toList, by rw [Array.length_toList]; exact hsv⟩ wr hO hsz hJs (by rw [HPRE.out, List.length_append, List.length_map]; have := List.length_pos_iff.2 (splitL_ne c sv.data.toList); omega)
      unfold encT at hy
      rw [str_eq' (x := sv) rfl] at hy
      clear hsp
      gi_wp2_with (refine ⟨trivial, rfl, ?_⟩; refine hix.mono ?_; rintro e w1 ⟨rfl, rfl⟩)
      refine ⟨rfl, hR.mono ?_⟩
      rintro e W3 ⟨hk3, O', hg3, hr⟩
      have hlast : splitL c s.data.toList = pre.map (·.1) ++ [sv.data.toList] := by rw [HPRE.out, HSP.out]
      have hO3 : ∀ k, O' k → W.heap.size ≤ k ∧ k < W3.heap.size := fun k hk => ⟨by
        rcases (hg3 k hk).2 with h | h
        · exact (hO k h).1
        · omega, (hg3 k hk).1⟩
      have hsz3 := hk3.size
      rcases hr with ⟨rfl, hJ3⟩ | ⟨rfl, hJ3⟩
      all_goals
        gi_wp2
        go_end0
      · exact ⟨⟨_, rfl⟩, by omega, O', hO3, .inl ⟨_, by rw [hlast]; simp, hJ3⟩⟩
      · exact ⟨⟨_, rfl⟩, by omega, O', hO3, .inr ⟨_, by rw [hlast]; simp, hJ3⟩⟩
    | some ab =>
      obtain ⟨a, b⟩ := ab
      obtain ⟨e1, e2, e3⟩ := Tags.split_some hsp
      have hlen : a.length + 1 + b.length = sv.size := by
        have := congrArg List.length e1
        simp at this
        rw [this]; omega
      have HI := Lib.hid e3
      have HSP := Lib.hid (splitL_some hsp)
      have HE1 := Lib.hid e1
      rw [HI.out] at hix
      have ha1 : a.length < sv.size := by omega
      have ha2 : a.length + 1 ≤ sv.size := by omega
      obtain ⟨ta, hta⟩ : ∃ ta : T, ta.1 = a := ⟨⟨a, by omega⟩, rfl⟩
      obtain ⟨fn, tmps, assign, body, hy, hR⟩ := hY O pre ta wr hO hsz hJs (by rw [HPRE.out, HSP.out, List.length_append, List.length_map]; simp)
      unfold encT at hy
      have ea : (⟨ta.1.toArray⟩ : ByteArray) = sv.extract 0 a.length := (str_eq (x := sv.extract 0 a.length) (by rw [Lib.extract_data, e1, hta]; simp)).symm
      rw [ea] at hy
      have HL := Lib.hid hlen
      have HTA := Lib.hid hta
      clear hsp e1 e2 e3 ea hlen hta
      gi_wp2_with (refine ⟨trivial, rfl, ?_⟩; refine hix.mono ?_; rintro e w1 ⟨rfl, rfl⟩)
      refine ⟨rfl, hR.mono ?_⟩
      rintro e W3 ⟨hk3, O', hg3, hr⟩
      have hsz3 := hk3.size
      have hO3 : ∀ k, O' k → W.heap.size ≤ k ∧ k < W3.heap.size := fun k hk => ⟨by
        rcases (hg3 k hk).2 with h | h
        · exact (hO k h).1
        · omega, (hg3 k hk).1⟩
      have hpre3 : splitL c s.data.toList = (pre ++ [ta]).map (·.1) ++ splitL c b := by rw [HPRE.out, HSP.out, List.map_append, List.map_cons, HTA.out]; simp
      have HP3 := Lib.hid hpre3
      have HO3 := Lib.hid hO3
      clear hpre3 hO3
      rcases hr with ⟨rfl, hJ3⟩ | ⟨rfl, hJ3⟩
      · have hb3 : Boxed W3 Bs 9 (.string sv) := hk3.heap hb (.inr (.inl hPs))
        have q2 : Boxed W3 Bp 9 (.string ⟨#[c]⟩) := hk3.heap p2 (.inl hDp)
        have q3 : Boxed W3 B0 3 (.int .i64 0) := hk3.heap p3 (.inl hD0)
        have g1 := hb3.cell
        have g2 := hb3.frozen
        have g3 := q2.cell
        have g4 := q3.cell
        have e2 : (sv.extract (a.length + 1) sv.size).data.toList = b := by
          rw [Lib.extract_data, HE1.out]
          have : sv.size = a.length + 1 + b.length := HL.out.symm
          simp [this]
        have HE2 := Lib.hid e2
        have HE3 : Hid ((sv.extract (a.length + 1) sv.size).size = b.length) := Lib.hid (by
          have := congrArg List.length e2
          simpa using this)
        have HB1 := Lib.hid b1
        clear e2 b1 b2 d2 d3
        gi_wp2
        go_roundw
        case rel =>
          refine ⟨sv.extract (a.length + 1) sv.size, O', pre ++ [ta], hb3.set _, ?_, ?_, ?_, ?_, ?_⟩
          · have := HL.out; have := HE3.out; omega
          · rw [HE2.out]; exact HP3.out
          · intro k hk; simp; exact HO3.out k hk
          · exact hJ _ _ _ _ hJ3 ((Keeps.refl _ _).setCell (.inr (fun h => h.1 hPs)) _)
          · refine (hK.trans (hk3.mono fun k _ h => .inl ?_)).setCell (.inr ?_) _
            · rcases h with rfl | rfl
              · exact hDp
              · exact hD0
            · simp only; omega
        case measure =>
          rw [strLeft_eq HB1.out, strLeft_eq (hb3.set (.string (sv.extract (a.length + 1) sv.size))).cell]
          have := HL.out; have := HE3.out; omega
      · gi_wp2
        refine bodyPost_ret (results_none rfl _ _ _) rfl ?_
        exact ⟨⟨_, rfl⟩, by omega, O', HO3.out, .inr ⟨_, ⟨splitL c b, HP3.out.symm⟩, hJ3⟩⟩
end Go.Proofs.YtlbmkgnfbkimaaaDoor
