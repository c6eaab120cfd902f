/- The contracts of hash.Get, Set and Del. -/
import Derived.Test.YtfbfejeccfoioaaHsList
namespace Go.Proofs.Ytfbfejeccfoioaa
open Go.RowKit Go.Shelf
attribute [local go_sem] Oper.semAt_some
set_option linter.unusedVariables false
set_option linter.unusedSimpArgs false

/-- hash.fields, and what it hands out. -/
theorem fields_at (a : Option Addr) (cap : Nat) (fs : List Fd) (w : World) (hF : Fds w a cap fs) (hn : fs.length ≤ 1000) (hok : ∀ x ∈ fs, OkF x) :
    Boxed (w.alloc (.cells #[.slice a fs.length cap] 22)) w.heap.size 22 (.slice a fs.length cap) ∧
    SeqL 26 #[.pointer (some ⟨w.heap.size, 0, none⟩)] fs fs.length (w.alloc (.cells #[.slice a fs.length cap] 22)) := by
  have hb := Boxed.new w 22 (.slice a fs.length cap)
  have hB : Below w.heap.size w (w.alloc (.cells #[.slice a fs.length cap] 22)) := (Below.refl _ _).alloc (Nat.le_refl _) _
  refine ⟨hb, seq_false (fields_seq w.heap.size a cap fs _ hb (hF.later hB) (by omega) hok (fun k => k < (w.alloc (.cells #[.slice a fs.length cap] 22)).heap.size) (fun _ => False) ?_) (fun k h => h) (Below.refl _ _)⟩
  intro b off ha h0
  obtain ⟨b', off', ha', hb', -⟩ := hF.get h0
  rw [ha] at ha'
  injection ha' with ha'
  injection ha' with ha'
  subst ha'
  simp
  omega

theorem eg_fields (args : Array Value) (w : World) : (callFunc 26 args).run Try.prog w = .ok (.enter 26 args) w := enters_of Try.func26 (by kernel_rfl) rfl args w
theorem eg_without (args : Array Value) (w : World) : (callFunc 29 args).run Try.prog w = .ok (.enter 29 args) w := enters_of Try.func29 (by kernel_rfl) rfl args w
theorem eg_with (args : Array Value) (w : World) : (callFunc 28 args).run Try.prog w = .ok (.enter 28 args) w := enters_of Try.func28 (by kernel_rfl) rfl args w

/-- the fields without those of a name, as an iterator. -/
theorem without_at (a : Option Addr) (cap : Nat) (fs : List Fd) (n : List UInt8) (w : World) (hF : Fds w a cap fs) (hn : fs.length ≤ 1000) (hok : ∀ x ∈ fs, OkF x) :
    ∃ w1 w2, w1 = w.alloc (.cells #[.slice a fs.length cap] 22) ∧ w1.heap.size = w.heap.size + 1 ∧
      w2 = (w1.alloc (.cells #[.func (.func 26) #[] #[.pointer (some ⟨w.heap.size, 0, none⟩)]] 44)).alloc (.cells #[.string ⟨n.toArray⟩] 9) ∧ w2.heap.size = w.heap.size + 3 ∧ Below w.heap.size w w2 ∧
      SeqL 29 #[.pointer (some ⟨w.heap.size + 1, 0, none⟩), .pointer (some ⟨w.heap.size + 1 + 1, 0, none⟩)] (Hs.del fs n) fs.length w2 := by
  refine ⟨_, _, rfl, by simp, rfl, by simp, ?_, ?_⟩
  · exact (((Below.refl _ w).alloc (Nat.le_refl _) _).alloc (by simp) _).alloc (by simp; omega) _
  · have h1 := (fields_at a cap fs w hF hn hok).2
    generalize hw1 : w.alloc (.cells #[.slice a fs.length cap] 22) = w1 at h1 ⊢
    have hs1 : w1.heap.size = w.heap.size + 1 := by rw [← hw1]; simp
    have hb2 : Below w1.heap.size w1 ((w1.alloc (.cells #[.func (.func 26) #[] #[.pointer (some ⟨w.heap.size, 0, none⟩)]] 44)).alloc (.cells #[.string ⟨n.toArray⟩] 9)) := ((Below.refl _ w1).alloc (Nat.le_refl _) _).alloc (by simp) _
    have b1 := (Boxed.new w1 44 (.func (.func 26) #[] #[.pointer (some ⟨w.heap.size, 0, none⟩)])).alloc (.cells #[.string ⟨n.toArray⟩] 9)
    have b2 := Boxed.new (w1.alloc (.cells #[.func (.func 26) #[] #[.pointer (some ⟨w.heap.size, 0, none⟩)]] 44)) 9 (.string ⟨n.toArray⟩)
    rw [World.size_alloc] at b2
    rw [hs1] at b1 b2
    exact without_seq (w.heap.size + 1) 26 _ n fs fs.length _ eg_fields (h1.later hb2) b1 b2 (by omega)

theorem RowF.lift {w w2 W : World} {u : Value} {xs : List Fd} (h : RowF w2 u xs W) (hb : Below w.heap.size w w2) : RowF w u xs W := ⟨owns_base h.1 hb.size, hb.trans (h.2.mono hb.size)⟩

theorem ok_del {fs : List Fd} (n : List UInt8) (h : ∀ x ∈ fs, OkF x) : ∀ x ∈ Hs.del fs n, OkF x := fun x hx => h x (Hs.del_mem hx)

set_option maxHeartbeats 2000000 in
theorem del_any (a : Option Addr) (cap : Nat) (fs : List Fd) (n : List UInt8) (w : World) (hF : Fds w a cap fs) (hn : fs.length ≤ 1000) (hok : ∀ x ∈ fs, OkF x) :
    CallsIn Fence.wide 0 Try.prog 13 #[.slice a fs.length cap, .string ⟨n.toArray⟩] w fun e W => ∃ u, e = .returned u ∧ RowF w u (Hs.del fs n) W := by
  obtain ⟨w1, w2, hw1, hs1, hw2, hs2, hB, hseq⟩ := without_at a cap fs n w hF hn hok
  have h1 := fields_any a fs.length cap w
  rw [← hw1] at h1
  have h2 := without_any 26 #[.pointer (some ⟨w.heap.size, 0, none⟩)] n w1
  rw [← hw2, hs1] at h2
  have h3 := list_any _ _ eg_without fs.length (Hs.del fs n) w2 (by omega) hseq
  have H1 := Lib.hid h1
  have H2 := Lib.hid h2
  have H3 := Lib.hid h3
  have HB := Lib.hid hB
  clear hw1 hw2 hs1 hs2 hseq h1 h2 h3 hB hF
  refine callsIn_of_wp Try.func13 rfl trivial ?_ rfl
  simp only [Try.ntmps13, List.size_toArray, List.length_cons, List.length_nil, Nat.reduceAdd, Nat.reduceSub, Array.replicate_succ, Array.replicate_zero, List.push_toArray, List.append_toArray, List.nil_append, List.cons_append]
  gi_wp2_with (first
    | (refine ⟨trivial, rfl, ?_⟩; with_reducible refine H1.out.mono ?_; rintro e w1' ⟨rfl, hw⟩; have HW1 := Lib.hid hw; clear hw)
    | (rw [HW1.out]; refine ⟨trivial, rfl, ?_⟩; with_reducible refine H2.out.mono ?_; rintro e w2' ⟨rfl, hw⟩; have HW2 := Lib.hid hw; clear hw)
    | (rw [HW2.out]; refine ⟨trivial, rfl, ?_⟩; with_reducible refine H3.out.mono ?_; rintro e w3' ⟨u, rfl, hr⟩; have HR := Lib.hid hr; clear hr))
  go_ret
  exact ⟨u, rfl, HR.out.lift HB.out⟩

set_option maxHeartbeats 2000000 in
theorem set_any (a : Option Addr) (cap : Nat) (fs : List Fd) (n v : List UInt8) (w : World) (hF : Fds w a cap fs) (hn : fs.length ≤ 1000) (hok : ∀ x ∈ fs, OkF x) (hnv : OkF (n, v)) :
    CallsIn Fence.wide 0 Try.prog 11 #[.slice a fs.length cap, .string ⟨n.toArray⟩, .string ⟨v.toArray⟩] w fun e W => ∃ u, e = .returned u ∧ RowF w u (Hs.set fs n v) W := by
  obtain ⟨w1, w2, hw1, hs1, hw2, hs2, hB, hseq⟩ := without_at a cap fs n w hF hn hok
  have h1 := fields_any a fs.length cap w
  rw [← hw1] at h1
  have h2 := without_any 26 #[.pointer (some ⟨w.heap.size, 0, none⟩)] n w1
  rw [← hw2, hs1] at h2
  have h3 := with_any 29 #[.pointer (some ⟨w.heap.size + 1, 0, none⟩), .pointer (some ⟨w.heap.size + 1 + 1, 0, none⟩)] n v w2
  obtain ⟨w3, hw3⟩ : ∃ w3, ((w2.alloc (.cells #[.func (.func 29) #[] #[.pointer (some ⟨w.heap.size + 1, 0, none⟩), .pointer (some ⟨w.heap.size + 1 + 1, 0, none⟩)]] 44)).alloc (.cells #[.string ⟨n.toArray⟩] 9)).alloc (.cells #[.string ⟨v.toArray⟩] 9) = w3 := ⟨_, rfl⟩
  rw [hw3] at h3
  have hb3 : Below w2.heap.size w2 w3 := by rw [← hw3]; exact (((Below.refl _ w2).alloc (Nat.le_refl _) _).alloc (by simp) _).alloc (by simp; omega) _
  have b1 : Boxed w3 w2.heap.size 44 (.func (.func 29) #[] #[.pointer (some ⟨w.heap.size + 1, 0, none⟩), .pointer (some ⟨w.heap.size + 1 + 1, 0, none⟩)]) := by rw [← hw3]; exact ((Boxed.new w2 _ _).alloc _).alloc _
  have b2 : Boxed w3 (w2.heap.size + 1) 9 (.string ⟨n.toArray⟩) := by
    rw [← hw3]
    have := Boxed.new (w2.alloc (.cells #[.func (.func 29) #[] #[.pointer (some ⟨w.heap.size + 1, 0, none⟩), .pointer (some ⟨w.heap.size + 1 + 1, 0, none⟩)]] 44)) 9 (.string ⟨n.toArray⟩)
    rw [World.size_alloc] at this
    exact this.alloc _
  have b3 : Boxed w3 (w2.heap.size + 1 + 1) 9 (.string ⟨v.toArray⟩) := by
    rw [← hw3]
    have := Boxed.new ((w2.alloc (.cells #[.func (.func 29) #[] #[.pointer (some ⟨w.heap.size + 1, 0, none⟩), .pointer (some ⟨w.heap.size + 1 + 1, 0, none⟩)]] 44)).alloc (.cells #[.string ⟨n.toArray⟩] 9)) 9 (.string ⟨v.toArray⟩)
    rwa [World.size_alloc, World.size_alloc] at this
  have hs := with_seq w2.heap.size 29 _ n v (Hs.del fs n) fs.length w3 eg_without (hseq.later hb3) b1 b2 b3 (by omega) (Hs.del_le fs n) hnv
  have h4 := list_any _ _ eg_with (fs.length + 1) (Hs.endW n v (Hs.del fs n)) w3 (by omega) hs
  rw [Hs.endW_eq] at h4
  have H1 := Lib.hid h1
  have H2 := Lib.hid h2
  have H3 := Lib.hid h3
  have H4 := Lib.hid h4
  have HB := Lib.hid (hB.trans (hb3.mono hB.size))
  clear hw1 hw2 hw3 hs1 hs2 hseq h1 h2 h3 h4 hs hb3 b1 b2 b3 hB hF
  refine callsIn_of_wp Try.func11 rfl trivial ?_ rfl
  simp only [Try.ntmps11, List.size_toArray, List.length_cons, List.length_nil, Nat.reduceAdd, Nat.reduceSub, Array.replicate_succ, Array.replicate_zero, List.push_toArray, List.append_toArray, List.nil_append, List.cons_append]
  gi_wp2_with (first
    | (refine ⟨trivial, rfl, ?_⟩; with_reducible refine H1.out.mono ?_; rintro e w1' ⟨rfl, hw⟩; have HW1 := Lib.hid hw; clear hw)
    | (rw [HW1.out]; refine ⟨trivial, rfl, ?_⟩; with_reducible refine H2.out.mono ?_; rintro e w2' ⟨rfl, hw⟩; have HW2 := Lib.hid hw; clear hw)
    | (rw [HW2.out]; refine ⟨trivial, rfl, ?_⟩; with_reducible refine H3.out.mono ?_; rintro e w3' ⟨rfl, hw⟩; have HW3 := Lib.hid hw; clear hw)
    | (rw [HW3.out]; refine ⟨trivial, rfl, ?_⟩; with_reducible refine H4.out.mono ?_; rintro e w4' ⟨u, rfl, hr⟩; have HR := Lib.hid hr; clear hr))
  go_ret
  exact ⟨u, rfl, HR.out.lift HB.out⟩
end Go.Proofs.Ytfbfejeccfoioaa
