/- The contracts of hash.fields and of the iterator that it hands out. -/
import Derived.Test.YtfbfejeccfoioaaHsBase
import Derived.Test.YtfbfejeccfoioaaHsPlain
import Derived.Test.YtfbfejeccfoioaaSeqB
namespace Go.Proofs.Ytfbfejeccfoioaa
open Go.RowKit Go.Shelf
attribute [local go_sem] Oper.semAt_some
set_option linter.unusedVariables false
set_option linter.unusedSimpArgs false

/-- a field of no great length. -/
def OkF (x : List UInt8 × List UInt8) : Prop := x.1.length ≤ 1000000 ∧ x.2.length ≤ 1000000

/-- a field as yield takes it. -/
def encF (x : List UInt8 × List UInt8) : Array Value := #[.string ⟨x.1.toArray⟩, .string ⟨x.2.toArray⟩]

set_option maxHeartbeats 1000000 in
theorem fields_any (a : Option Addr) (len cap : Nat) (w : World) :
    CallsIn Fence.wide 0 Try.prog 21 #[.slice a len cap] w fun e w' =>
      e = .returned (.func (.func 26) #[] #[.pointer (some ⟨w.heap.size, 0, none⟩)]) ∧ w' = w.alloc (.cells #[.slice a len cap] 22) := by
  refine callsIn_of_wp Try.func21 rfl trivial ?_ rfl
  simp only [Try.ntmps21, List.size_toArray, List.length_cons, List.length_nil, Nat.reduceAdd, Nat.reduceSub, Array.replicate_succ, Array.replicate_zero, List.push_toArray, List.append_toArray, List.nil_append, List.cons_append]
  gi_wp2
  go_ret
  exact ⟨rfl, rfl⟩

set_option maxRecDepth 100000 in
set_option maxHeartbeats 4000000 in
theorem fields_seq (Bx : Nat) (a : Option Addr) (cap : Nat) (fs : List (List UInt8 × List UInt8)) (w : World) (h1 : Boxed w Bx 22 (.slice a fs.length cap)) (h2 : Fds w a cap fs) (hn : fs.length ≤ 1000000) (hok : ∀ x ∈ fs, OkF x) (Dt Pv : Nat → Prop) (hD : ∀ b off, a = some ⟨b, off, none⟩ → 0 < fs.length → Dt b) :
    SeqB OkF true Try.prog 26 #[.pointer (some ⟨Bx, 0, none⟩)] encF Dt Pv (fun ys => ys = fs) (fun p => p <+: fs) fs.length w := by
  intro l J Jx W hW hJ _ _ hY h0
  have HB : Boxed W Bx 22 (.slice a fs.length cap) := (hW.block _ h1.lt).trans h1
  have HWd := Lib.hid h2
  have HBl := Lib.hid hW
  have c0 := HB.cell
  have HY := Lib.hid hY
  have hWs := hW.size
  have HA := Lib.hid hJ
  clear h1 HB hY h2 hJ hW
  refine callsIn_of_wp Try.func26 rfl trivial ?_ rfl
  simp only [Try.ntmps26, List.size_toArray, List.length_cons, List.length_nil, Nat.reduceAdd, Nat.reduceSub, Array.replicate_succ, Array.replicate_zero, List.push_toArray, List.append_toArray, List.nil_append, List.cons_append]
  gi_wp2
  gi_loopw [7] (fun i wr => ∃ (k : Nat) (O : Nat → Prop), i = .int .i64 k ∧ k ≤ fs.length ∧ (∀ k, O k → W.heap.size ≤ k ∧ k < wr.heap.size) ∧ J O (fs.take k) wr ∧ Hid (Keeps Dt W wr) ∧ W.heap.size ≤ wr.heap.size) (fun i _ => fs.length - (intOf i).toNat)
  case atStart => exact ⟨0, fun _ => False, rfl, Nat.zero_le _, fun _ h => h.elim, by simpa using h0, Lib.hid (Keeps.refl _ _), Nat.le_refl _⟩
  case round =>
    obtain ⟨k, O, rfl, hk, hO, hJs, HK, hsz⟩ := hrel
    have HJs := Lib.hid hJs
    clear hJs
    by_cases hlt : k < fs.length
    · obtain ⟨b, off, rfl, hb, hc⟩ := HWd.out.get (by omega)
      have hDb := hD b off rfl (by omega)
      have c1 := ((HK.out.cell (p := ⟨b, off + k * 2, none⟩) (by simp; omega) hDb).trans (HBl.out.cell (p := ⟨b, off + k * 2, none⟩) hb)).trans (hc k hlt).1
      have c2 := ((HK.out.cell (p := ⟨b, off + k * 2 + 1, none⟩) (by simp; omega) hDb).trans (HBl.out.cell (p := ⟨b, off + k * 2 + 1, none⟩) hb)).trans (hc k hlt).2
      have hwl : (fs.length : Int) ≤ 1000000 := by omega
      have hkI : (k : Int) < (fs.length : Int) := by omega
      have HT : Hid (fs.take (k + 1) = fs.take k ++ [fs.getD k ([], [])]) := Lib.hid (take_succ_getD (d := ([], [])) hlt)
      have hT : OkF (fs.getD k ([], [])) := hok _ (by rw [getD_eq hlt]; exact List.getElem_mem hlt)
      clear hc
      generalize fs.getD k ([], []) = xy at c1 c2 HT hT
      obtain ⟨x, y⟩ := xy
      simp only at c1 c2
      have hJa := HA.out _ _ _ _ HJs.out ((Keeps.refl _ _).alloc (.cells #[.string ⟨x.toArray⟩, .string ⟨y.toArray⟩] 42))
      obtain ⟨fn, tmps, assign, body, hy, hR⟩ := HY.out O (fs.take k) (x, y) (wr.alloc (.cells #[.string ⟨x.toArray⟩, .string ⟨y.toArray⟩] 42)) (fun j hj => ⟨(hO j hj).1, by have := (hO j hj).2; simp; omega⟩) (by simp; omega) hJa (by rw [List.length_take]; omega) hT
      have HR := Lib.hid hR
      clear hR hJa hT
      unfold encF at hy
      simp only at hy
      gi_wp2
      refine ⟨rfl, HR.out.mono ?_⟩
      rintro e W3 ⟨hk3, O', hg3, hout⟩
      obtain ⟨hO', hK3⟩ := round_next hO (by simp) hsz rfl (HK.out.alloc _) hk3 hg3
      have HK3 := Lib.hid hK3
      have HO' := Lib.hid hO'
      have hs3 := hK3.size
      clear hk3 hg3 hK3 hO' c1 c2
      rcases hout with ⟨rfl, hJ3⟩ | ⟨rfl, hJx3⟩
      · have HJ3 := Lib.hid hJ3
        clear hJ3
        gi_wp2
        go_roundw
        case rel => exact ⟨k + 1, O', by go_num, by omega, HO'.out, by rw [HT.out]; exact HJ3.out, HK3, hs3⟩
        case measure => simp [intOf]; omega
      · have HJ3 := Lib.hid hJx3
        clear hJx3
        gi_wp2
        refine bodyPost_ret (results_none rfl _ _ _) rfl ?_
        exact ⟨⟨_, rfl⟩, hs3, O', HO'.out, .inr ⟨_, HT.out ▸ List.take_prefix (k + 1) fs, HJ3.out⟩⟩
    · obtain rfl : k = fs.length := by omega
      gi_wp2
      go_end0
      exact ⟨⟨_, rfl⟩, hsz, O, hO, .inl ⟨_, rfl, by have := HJs.out; rwa [List.take_length] at this⟩⟩

/-- an iterator that may be left is one that is not. -/
theorem seq_false {α : Type} {T : α → Prop} {P : Program} {g : Nat} {lb : Array Value} {encs : α → Array Value} {Dt Dt' Pv : Nat → Prop} {S Sp : List α → Prop} {N : Nat} {w w' : World} (h : SeqB T true P g lb encs Dt Pv S Sp N w) (hD : ∀ k, Dt k → Dt' k) (hb : Below w.heap.size w w') : SeqB T false P g lb encs Dt' Pv S (fun _ => False) N w' := by
  intro l J Jx W hW hJ hJx hst hY h0
  have hX := hst rfl
  refine (h l J Jx W (hb.trans (hW.mono hb.size)) hJ hJx (fun e => by cases e) ?_ h0).mono ?_
  · intro O pre x W1 hO hs hj hN hT
    obtain ⟨fn, tmps, assign, body, hy, hR⟩ := hY O pre x W1 hO hs hj hN hT
    exact ⟨fn, tmps, assign, body, hy, hR.mono fun e W' ⟨hk, r⟩ => ⟨hk.mono fun k _ h => h.imp (hD k) id, r⟩⟩
  · rintro e W' ⟨hv, hs, O, hO, h | ⟨pre, _, hx⟩⟩
    · exact ⟨hv, hs, O, hO, .inl h⟩
    · exact (hX _ _ _ hx).elim
end Go.Proofs.Ytfbfejeccfoioaa
