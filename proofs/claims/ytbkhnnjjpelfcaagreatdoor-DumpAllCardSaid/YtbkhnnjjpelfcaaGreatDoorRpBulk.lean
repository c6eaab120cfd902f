/- The contracts of the reader's number and line. The walks of the reader's number, case by case. The contract of the reader's number. The contract of the reader's line, where bytes.IndexAny keeps its own. The contract of the reader's bulk; what is told of a reply that was read. The contract of the reader's bulk. -/
import Derived.Test.YtbkhnnjjpelfcaaGreatDoorRpOwn
namespace Go.Proofs.YtbkhnnjjpelfcaaGreatDoor
open Go.RowKit Go.Shelf
attribute [local go_sem] Oper.semAt_some

namespace Rp
/-- a sign that may stand in a number. -/
def numC : List UInt8 := [45, 48, 49, 50, 51, 52, 53, 54, 55, 56, 57]
/-- what the reader takes for a number. -/
def lead (bs : List UInt8) : List UInt8 := (bs.take 20).takeWhile fun c => numC.contains c
/-- number's own answer. -/
def devP (lo hi : Int) (bs : List UInt8) : Out Int :=
  if (lead bs = [] ∨ (lead bs = [45] ∧ lo < 0)) ∧ (lead bs).length = bs.length then .err 6
  else match Lib.atoiAll (lead bs) with
    | .ok v => if Dig.dec v = lead bs ∧ lo ≤ v ∧ v ≤ hi then (textP (lead bs).length bs).map fun _ => v else .err 5
    | _ => .err 5
end Rp

/-- what is told of a number that was read. -/
def NOut (S : Nat → Prop) (Pb : Nat) (w : World) (o : Rp.Out Int) (e : Ending) (w' : World) : Prop :=
  Keeps (fun k => k ≠ Pb) w w' ∧ match o with
    | .ok n r => e = .returned (.tuple #[.int .i64 n, .int .i64 0]) ∧ Rst S Pb w' r
    | .err c => ∃ n, e = .returned (.tuple #[.int .i64 n, .int .i64 c])

theorem lead_take (bs : List UInt8) : (bs.take 20).take ((bs.take 20).length - ((bs.take 20).dropWhile fun c => Rp.numC.contains c).length) = Rp.lead bs := by
  unfold Rp.lead
  generalize bs.take 20 = l
  have h := List.takeWhile_append_dropWhile (p := fun c => Rp.numC.contains c) (l := l)
  obtain ⟨t, ht⟩ : ∃ t, (l.takeWhile fun c => Rp.numC.contains c) = t := ⟨_, rfl⟩
  obtain ⟨d, hd⟩ : ∃ d, (l.dropWhile fun c => Rp.numC.contains c) = d := ⟨_, rfl⟩
  rw [ht, hd] at h
  rw [ht, hd, ← h, List.length_append, show t.length + d.length - d.length = t.length by omega, List.take_left]

theorem i64_str {s : List UInt8} (c : List UInt8) : ((⟨s.toArray⟩ : ByteArray).toList == (⟨c.toArray⟩ : ByteArray).toList) = decide (s = c) := by
  rw [Lib.toList_data, Lib.toList_data]
  by_cases h : s = c <;> simp [h]

theorem trim_any (S : Nat → Prop) (w : World) (a : Option Addr) (cap : Nat) (bs : List UInt8) (h : Bt S w a cap bs) :
    Calls Tryz.prog 71 #[.slice a bs.length cap, .string ⟨#[45, 48, 49, 50, 51, 52, 53, 54, 55, 56, 57]⟩] w fun e w' => (∃ b c, e = .returned (.slice b (bs.dropWhile fun c => Rp.numC.contains c).length c)) ∧ Below w.heap.size w w' := by
  refine (Any.bytes_TrimLeft_laid Tryz.trimLeftL (by kernel_rfl) a bs.length cap (nums bs) ⟨#[45, 48, 49, 50, 51, 52, 53, 54, 55, 56, 57]⟩ w (nums_len bs) h.1 h.2.1 h.bytesIn (nums_range bs) (by decide) ?_).mono ?_
  · intro j b hj
    have : b ∈ [45, 48, 49, 50, 51, 52, 53, 54, 55, 56, (57 : UInt8)] := List.mem_of_getElem? hj
    have h2 : ∀ x ∈ [45, 48, 49, 50, 51, 52, 53, 54, 55, 56, (57 : UInt8)], x.toNat < 128 := by decide
    exact h2 b this
  · rintro e w' ⟨rfl, hb⟩
    refine ⟨?_, hb⟩
    rw [nums_bytes]
    have e1 : Lib.trimLeftS bs (⟨#[45, 48, 49, 50, 51, 52, 53, 54, 55, 56, 57]⟩ : ByteArray).data.toList = bs.dropWhile fun c => Rp.numC.contains c := rfl
    rw [e1]
    have hle : (bs.dropWhile fun c => Rp.numC.contains c).length ≤ bs.length := (List.dropWhile_sublist _).length_le
    unfold Lib.leftV Lib.fromV
    split
    · exact ⟨none, 0, by rw [show (bs.dropWhile fun c => Rp.numC.contains c).length = 0 by omega]⟩
    · exact ⟨_, _, by rw [show bs.length - (bs.length - (bs.dropWhile fun c => Rp.numC.contains c).length) = (bs.dropWhile fun c => Rp.numC.contains c).length by omega]⟩

theorem TOut.ret {S : Nat → Prop} {Pb : Nat} {w : World} {o : Rp.Out (List UInt8)} {e : Ending} {w' : World} (h : TOut S Pb w o e w') : ∃ s c, e = .returned (.tuple #[.string s, .int .i64 c]) := by
  obtain ⟨_, h⟩ := h
  cases o with
  | ok s r => exact ⟨_, _, h.1⟩
  | err c => exact ⟨_, _, h⟩

theorem ht_nout {S : Nat → Prop} {Pb : Nat} {w w4 w5 : World} {o : Rp.Out (List UInt8)} {v c : Int} {sv : ByteArray} (hb : Below w.heap.size w w4) (h : TOut S Pb w4 o (.returned (.tuple #[.string sv, .int .i64 c])) w5) :
    NOut S Pb w (o.map fun _ => v) (.returned (.tuple #[.int .i64 v, .int .i64 c])) w5 := by
  obtain ⟨hk, h⟩ := h
  refine ⟨(Keeps.of_below hb fun k h _ => h).trans (hk.mono fun k _ h => h), ?_⟩
  cases o with
  | ok s r =>
    obtain ⟨h1, h2⟩ := h
    injection h1 with h1
    injection h1 with h1
    simp only [Array.mk.injEq, List.cons.injEq, Value.int.injEq, and_true, true_and] at h1
    exact ⟨by rw [h1.2], h2⟩
  | err c' =>
    injection h with h
    injection h with h
    simp only [Array.mk.injEq, List.cons.injEq, Value.int.injEq, and_true, true_and] at h
    exact ⟨v, by rw [h.2]⟩

theorem atoi_none : Lib.atoiAll [] = .«syntax» := rfl
theorem atoi_sign : Lib.atoiAll [45] = .«syntax» := by decide

end Go.Proofs.YtbkhnnjjpelfcaaGreatDoor
namespace Go.Proofs.YtbkhnnjjpelfcaaGreatDoor
open Go.RowKit Go.Shelf
attribute [local go_sem] Oper.semAt_some

def moreE (q : Bool) : Int := if q then 6 else 5
def moreP (q : Bool) : Rp.Out Int := .err (moreE q)

set_option maxRecDepth 100000 in
set_option maxHeartbeats 2000000 in
theorem num_nil (S : Nat → Prop) (Pb : Nat) (bs : List UInt8) (lo hi : Int) (w : World) (a : Option Addr) (cap nl dl : Nat) (q : Bool) (hq : ((0 : Int) == (bs.length : Int)) = q)
    (_hlo : -9223372036854775808 ≤ lo) (_hlo0 : lo ≤ 9223372036854775807) (_hhi0 : -9223372036854775808 ≤ hi) (_hhi : hi ≤ 9223372036854775807)
    (HNEAR : Hid (Calls Tryz.prog 68 #[.pointer (some ⟨Pb, 0, none⟩), .int .i64 20] w fun e w' => e = .returned (.slice a nl cap) ∧ Below w.heap.size w w'))
    (HTRIM : Hid (∀ w1, Below w.heap.size w w1 → Calls Tryz.prog 71 #[.slice a nl cap, .string ⟨#[45, 48, 49, 50, 51, 52, 53, 54, 55, 56, 57]⟩] w1 fun e w' => (∃ b c, e = .returned (.slice b dl c)) ∧ Below w1.heap.size w1 w'))
    (HCONV : Hid (∀ w2, Below w.heap.size w w2 → (convert 36 9 (.slice a 0 cap)).run Tryz.prog w2 = .ok (.string ⟨#[]⟩) w2))
    (HCC : Hid (∀ w2, Below w.heap.size w w2 → w2.cell? ⟨Pb, 0, none⟩ = some (.slice a bs.length cap)))
    (hw1 : IntKind.i64.wrap ((nl : Int) - (dl : Int)) = (0 : Int)) (hs1 : (0 : Int) ≤ (cap : Int)) (_hl : bs.length ≤ cap) (_hcap : cap ≤ 9223372036854775807) (_hnb : nl ≤ bs.length ∧ nl ≤ 20)
    (HAT : Hid (∀ w2, Below w.heap.size w w2 → Calls Tryz.prog 72 #[.string ⟨#[]⟩] w2 fun e w3 => ∃ te pe, e = .returned (.tuple #[.int .i64 0, .iface te pe]) ∧ Below w2.heap.size w2 w3))
    : Calls Tryz.prog 47 #[.pointer (some ⟨Pb, 0, none⟩), .int .i64 lo, .int .i64 hi] w (NOut S Pb w (moreP q)) := by
  go_enter Tryz.func47, Tryz.ntmps47
  go_wp2_with (first
    | (go_at_call 68; refine HNEAR.out.mono ?_; rintro e w1 ⟨rfl, hb1⟩; have HB1 := Lib.hid hb1; clear hb1)
    | (go_at_call 71; refine (HTRIM.out w1 HB1.out).mono ?_; rintro e w2 ⟨⟨b2, c2, rfl⟩, hb2⟩; have HB2 := Lib.hid (HB1.out.trans (hb2.mono HB1.out.size)); have hconv := HCONV.out w2 HB2.out; have hcc := HCC.out w2 HB2.out; clear hb2)
    | (go_at_call 72; refine (HAT.out w2 HB2.out).mono ?_; rintro e w3 ⟨te, pe, rfl, hb3⟩; have HB3 := Lib.hid (HB2.out.trans (hb3.mono HB2.out.size)); clear hb3))
  · rename_i hh
    go_ret2
    exact ⟨Keeps.of_below HB2.out fun k h _ => h, _, by rw [hh]; rfl⟩
  · rename_i hh
    go_ret2
    exact ⟨Keeps.of_below HB3.out fun k h _ => h, _, by first | rfl | (rw [‹q = false›]; rfl)⟩

set_option maxRecDepth 100000 in
set_option maxHeartbeats 2000000 in
theorem num_sign (S : Nat → Prop) (Pb : Nat) (bs : List UInt8) (lo hi : Int) (w : World) (a : Option Addr) (cap nl dl : Nat) (q : Bool) (hq : ((1 : Int) == (bs.length : Int)) = q) (hlo9 : lo < 0)
    (_hlo : -9223372036854775808 ≤ lo) (_hlo0 : lo ≤ 9223372036854775807) (_hhi0 : -9223372036854775808 ≤ hi) (_hhi : hi ≤ 9223372036854775807)
    (HNEAR : Hid (Calls Tryz.prog 68 #[.pointer (some ⟨Pb, 0, none⟩), .int .i64 20] w fun e w' => e = .returned (.slice a nl cap) ∧ Below w.heap.size w w'))
    (HTRIM : Hid (∀ w1, Below w.heap.size w w1 → Calls Tryz.prog 71 #[.slice a nl cap, .string ⟨#[45, 48, 49, 50, 51, 52, 53, 54, 55, 56, 57]⟩] w1 fun e w' => (∃ b c, e = .returned (.slice b dl c)) ∧ Below w1.heap.size w1 w'))
    (HCONV : Hid (∀ w2, Below w.heap.size w w2 → (convert 36 9 (.slice a 1 cap)).run Tryz.prog w2 = .ok (.string ⟨#[45]⟩) w2))
    (HCC : Hid (∀ w2, Below w.heap.size w w2 → w2.cell? ⟨Pb, 0, none⟩ = some (.slice a bs.length cap)))
    (hw1 : IntKind.i64.wrap ((nl : Int) - (dl : Int)) = (1 : Int)) (hs1 : (1 : Int) ≤ (cap : Int)) (_hl : bs.length ≤ cap) (hcap : cap ≤ 9223372036854775807) (_hnb : nl ≤ bs.length ∧ nl ≤ 20)
    (HAT : Hid (∀ w2, Below w.heap.size w w2 → Calls Tryz.prog 72 #[.string ⟨#[45]⟩] w2 fun e w3 => ∃ te pe, e = .returned (.tuple #[.int .i64 0, .iface te pe]) ∧ Below w2.heap.size w2 w3))
    : Calls Tryz.prog 47 #[.pointer (some ⟨Pb, 0, none⟩), .int .i64 lo, .int .i64 hi] w (NOut S Pb w (moreP q)) := by
  go_enter Tryz.func47, Tryz.ntmps47
  go_wp2_with (first
    | (go_at_call 68; refine HNEAR.out.mono ?_; rintro e w1 ⟨rfl, hb1⟩; have HB1 := Lib.hid hb1; clear hb1)
    | (go_at_call 71; refine (HTRIM.out w1 HB1.out).mono ?_; rintro e w2 ⟨⟨b2, c2, rfl⟩, hb2⟩; have HB2 := Lib.hid (HB1.out.trans (hb2.mono HB1.out.size)); have hconv := HCONV.out w2 HB2.out; have hcc := HCC.out w2 HB2.out; clear hb2)
    | (go_at_call 72; refine (HAT.out w2 HB2.out).mono ?_; rintro e w3 ⟨te, pe, rfl, hb3⟩; have HB3 := Lib.hid (HB2.out.trans (hb3.mono HB2.out.size)); clear hb3))
  · rename_i hh
    go_ret2
    exact ⟨Keeps.of_below HB2.out fun k h _ => h, _, by rw [hh]; rfl⟩
  · rename_i hh
    go_ret2
    exact ⟨Keeps.of_below HB3.out fun k h _ => h, _, by first | rfl | (rw [‹q = false›]; rfl)⟩

set_option maxRecDepth 100000 in
set_option maxHeartbeats 2000000 in
theorem num_sign2 (S : Nat → Prop) (Pb : Nat) (bs : List UInt8) (lo hi : Int) (w : World) (a : Option Addr) (cap nl dl : Nat) (hlo9 : ¬ lo < 0)
    (hlo : -9223372036854775808 ≤ lo) (hlo0 : lo ≤ 9223372036854775807) (_hhi0 : -9223372036854775808 ≤ hi) (_hhi : hi ≤ 9223372036854775807)
    (HNEAR : Hid (Calls Tryz.prog 68 #[.pointer (some ⟨Pb, 0, none⟩), .int .i64 20] w fun e w' => e = .returned (.slice a nl cap) ∧ Below w.heap.size w w'))
    (HTRIM : Hid (∀ w1, Below w.heap.size w w1 → Calls Tryz.prog 71 #[.slice a nl cap, .string ⟨#[45, 48, 49, 50, 51, 52, 53, 54, 55, 56, 57]⟩] w1 fun e w' => (∃ b c, e = .returned (.slice b dl c)) ∧ Below w1.heap.size w1 w'))
    (HCONV : Hid (∀ w2, Below w.heap.size w w2 → (convert 36 9 (.slice a 1 cap)).run Tryz.prog w2 = .ok (.string ⟨#[45]⟩) w2))
    (HCC : Hid (∀ w2, Below w.heap.size w w2 → w2.cell? ⟨Pb, 0, none⟩ = some (.slice a bs.length cap)))
    (hw1 : IntKind.i64.wrap ((nl : Int) - (dl : Int)) = (1 : Int)) (hs1 : (1 : Int) ≤ (cap : Int)) (_hl : bs.length ≤ cap) (hcap : cap ≤ 9223372036854775807) (_hnb : nl ≤ bs.length ∧ nl ≤ 20)
    (HAT : Hid (∀ w2, Below w.heap.size w w2 → Calls Tryz.prog 72 #[.string ⟨#[45]⟩] w2 fun e w3 => ∃ te pe, e = .returned (.tuple #[.int .i64 0, .iface te pe]) ∧ Below w2.heap.size w2 w3))
    : Calls Tryz.prog 47 #[.pointer (some ⟨Pb, 0, none⟩), .int .i64 lo, .int .i64 hi] w (NOut S Pb w (.err 5)) := by
  go_enter Tryz.func47, Tryz.ntmps47
  go_wp2_with (first
    | (go_at_call 68; refine HNEAR.out.mono ?_; rintro e w1 ⟨rfl, hb1⟩; have HB1 := Lib.hid hb1; clear hb1)
    | (go_at_call 71; refine (HTRIM.out w1 HB1.out).mono ?_; rintro e w2 ⟨⟨b2, c2, rfl⟩, hb2⟩; have HB2 := Lib.hid (HB1.out.trans (hb2.mono HB1.out.size)); have hconv := HCONV.out w2 HB2.out; have hcc := HCC.out w2 HB2.out; clear hb2)
    | (go_at_call 72; refine (HAT.out w2 HB2.out).mono ?_; rintro e w3 ⟨te, pe, rfl, hb3⟩; have HB3 := Lib.hid (HB2.out.trans (hb3.mono HB2.out.size)); clear hb3))
  go_ret2
  exact ⟨Keeps.of_below HB3.out fun k h _ => h, _, rfl⟩

set_option maxRecDepth 100000 in
set_option maxHeartbeats 2000000 in
theorem num_bad (S : Nat → Prop) (Pb : Nat) (bs : List UInt8) (lo hi : Int) (w : World) (a : Option Addr) (cap nl dl : Nat) (L : List UInt8) (sl : Nat) (_hsz : (⟨L.toArray⟩ : ByteArray).size = sl) (q0 : ¬ L = []) (q1 : ¬ L = [45]) (sat : Int) (_hsat : -9223372036854775808 ≤ sat ∧ sat ≤ 9223372036854775807)
    (_hlo : -9223372036854775808 ≤ lo) (_hlo0 : lo ≤ 9223372036854775807) (_hhi0 : -9223372036854775808 ≤ hi) (_hhi : hi ≤ 9223372036854775807)
    (HNEAR : Hid (Calls Tryz.prog 68 #[.pointer (some ⟨Pb, 0, none⟩), .int .i64 20] w fun e w' => e = .returned (.slice a nl cap) ∧ Below w.heap.size w w'))
    (HTRIM : Hid (∀ w1, Below w.heap.size w w1 → Calls Tryz.prog 71 #[.slice a nl cap, .string ⟨#[45, 48, 49, 50, 51, 52, 53, 54, 55, 56, 57]⟩] w1 fun e w' => (∃ b c, e = .returned (.slice b dl c)) ∧ Below w1.heap.size w1 w'))
    (HCONV : Hid (∀ w2, Below w.heap.size w w2 → (convert 36 9 (.slice a sl cap)).run Tryz.prog w2 = .ok (.string ⟨L.toArray⟩) w2))
    (HCC : Hid (∀ w2, Below w.heap.size w w2 → w2.cell? ⟨Pb, 0, none⟩ = some (.slice a bs.length cap)))
    (hw1 : IntKind.i64.wrap ((nl : Int) - (dl : Int)) = (sl : Int)) (hs1 : (sl : Int) ≤ (cap : Int)) (_hl : bs.length ≤ cap) (_hcap : cap ≤ 9223372036854775807) (_hnb : nl ≤ bs.length ∧ nl ≤ 20)
    (HAT : Hid (∀ w2, Below w.heap.size w w2 → Calls Tryz.prog 72 #[.string ⟨L.toArray⟩] w2 fun e w3 => ∃ te pe, e = .returned (.tuple #[.int .i64 sat, .iface te pe]) ∧ Below w2.heap.size w2 w3))
    : Calls Tryz.prog 47 #[.pointer (some ⟨Pb, 0, none⟩), .int .i64 lo, .int .i64 hi] w (NOut S Pb w (.err 5)) := by
  go_enter Tryz.func47, Tryz.ntmps47
  go_wp2_with (first
    | (go_at_call 68; refine HNEAR.out.mono ?_; rintro e w1 ⟨rfl, hb1⟩; have HB1 := Lib.hid hb1; clear hb1)
    | (go_at_call 71; refine (HTRIM.out w1 HB1.out).mono ?_; rintro e w2 ⟨⟨b2, c2, rfl⟩, hb2⟩; have HB2 := Lib.hid (HB1.out.trans (hb2.mono HB1.out.size)); have hconv := HCONV.out w2 HB2.out; have hcc := HCC.out w2 HB2.out; clear hb2)
    | (go_at_call 72; refine (HAT.out w2 HB2.out).mono ?_; rintro e w3 ⟨te, pe, rfl, hb3⟩; have HB3 := Lib.hid (HB2.out.trans (hb3.mono HB2.out.size)); clear hb3))
  go_ret2
  exact ⟨Keeps.of_below HB3.out fun k h _ => h, _, rfl⟩

set_option maxRecDepth 100000 in
set_option maxHeartbeats 2000000 in
theorem num_other (S : Nat → Prop) (Pb : Nat) (bs : List UInt8) (lo hi : Int) (w : World) (a : Option Addr) (cap nl dl : Nat) (L : List UInt8) (sl : Nat) (_hsz : (⟨L.toArray⟩ : ByteArray).size = sl) (q0 : ¬ L = []) (q1 : ¬ L = [45]) (v : Int) (_hv : -9223372036854775808 ≤ v ∧ v ≤ 9223372036854775807)  (q3 : ¬ Dig.dec v = L)
    (_hlo : -9223372036854775808 ≤ lo) (_hlo0 : lo ≤ 9223372036854775807) (_hhi0 : -9223372036854775808 ≤ hi) (_hhi : hi ≤ 9223372036854775807)
    (HNEAR : Hid (Calls Tryz.prog 68 #[.pointer (some ⟨Pb, 0, none⟩), .int .i64 20] w fun e w' => e = .returned (.slice a nl cap) ∧ Below w.heap.size w w'))
    (HTRIM : Hid (∀ w1, Below w.heap.size w w1 → Calls Tryz.prog 71 #[.slice a nl cap, .string ⟨#[45, 48, 49, 50, 51, 52, 53, 54, 55, 56, 57]⟩] w1 fun e w' => (∃ b c, e = .returned (.slice b dl c)) ∧ Below w1.heap.size w1 w'))
    (HCONV : Hid (∀ w2, Below w.heap.size w w2 → (convert 36 9 (.slice a sl cap)).run Tryz.prog w2 = .ok (.string ⟨L.toArray⟩) w2))
    (HCC : Hid (∀ w2, Below w.heap.size w w2 → w2.cell? ⟨Pb, 0, none⟩ = some (.slice a bs.length cap)))
    (hw1 : IntKind.i64.wrap ((nl : Int) - (dl : Int)) = (sl : Int)) (hs1 : (sl : Int) ≤ (cap : Int)) (_hl : bs.length ≤ cap) (_hcap : cap ≤ 9223372036854775807) (_hnb : nl ≤ bs.length ∧ nl ≤ 20)
    (HAT : Hid (∀ w2, Below w.heap.size w w2 → Calls Tryz.prog 72 #[.string ⟨L.toArray⟩] w2 fun e w3 => e = .returned (.tuple #[.int .i64 v, .nilIface]) ∧ Below w2.heap.size w2 w3))
    (HIT : Hid (∀ w2, Below w.heap.size w w2 → Calls Tryz.prog 41 #[.int .i64 v] w2 fun e w3 => e = .returned (.string ⟨(Dig.dec v).toArray⟩) ∧ Below w2.heap.size w2 w3))
    : Calls Tryz.prog 47 #[.pointer (some ⟨Pb, 0, none⟩), .int .i64 lo, .int .i64 hi] w (NOut S Pb w (.err 5)) := by
  go_enter Tryz.func47, Tryz.ntmps47
  go_wp2_with (first
    | (go_at_call 68; refine HNEAR.out.mono ?_; rintro e w1 ⟨rfl, hb1⟩; have HB1 := Lib.hid hb1; clear hb1)
    | (go_at_call 71; refine (HTRIM.out w1 HB1.out).mono ?_; rintro e w2 ⟨⟨b2, c2, rfl⟩, hb2⟩; have HB2 := Lib.hid (HB1.out.trans (hb2.mono HB1.out.size)); have hconv := HCONV.out w2 HB2.out; have hcc := HCC.out w2 HB2.out; clear hb2)
    | (go_at_call 72; refine (HAT.out w2 HB2.out).mono ?_; rintro e w3 ⟨rfl, hb3⟩; have HB3 := Lib.hid (HB2.out.trans (hb3.mono HB2.out.size)); clear hb3)
    | (go_at_call 41; refine (HIT.out w3 HB3.out).mono ?_; rintro e w4 ⟨rfl, hb4⟩; have HB4 := Lib.hid (HB3.out.trans (hb4.mono HB3.out.size)); clear hb4))
  go_ret2
  exact ⟨Keeps.of_below HB4.out fun k h _ => h, _, rfl⟩

set_option maxRecDepth 100000 in
set_option maxHeartbeats 2000000 in
theorem num_low (S : Nat → Prop) (Pb : Nat) (bs : List UInt8) (lo hi : Int) (w : World) (a : Option Addr) (cap nl dl : Nat) (L : List UInt8) (sl : Nat) (_hsz : (⟨L.toArray⟩ : ByteArray).size = sl) (q0 : ¬ L = []) (q1 : ¬ L = [45]) (v : Int) (_hv : -9223372036854775808 ≤ v ∧ v ≤ 9223372036854775807)  (q3 : Dig.dec v = L) (h5 : v < lo)
    (_hlo : -9223372036854775808 ≤ lo) (_hlo0 : lo ≤ 9223372036854775807) (_hhi0 : -9223372036854775808 ≤ hi) (_hhi : hi ≤ 9223372036854775807)
    (HNEAR : Hid (Calls Tryz.prog 68 #[.pointer (some ⟨Pb, 0, none⟩), .int .i64 20] w fun e w' => e = .returned (.slice a nl cap) ∧ Below w.heap.size w w'))
    (HTRIM : Hid (∀ w1, Below w.heap.size w w1 → Calls Tryz.prog 71 #[.slice a nl cap, .string ⟨#[45, 48, 49, 50, 51, 52, 53, 54, 55, 56, 57]⟩] w1 fun e w' => (∃ b c, e = .returned (.slice b dl c)) ∧ Below w1.heap.size w1 w'))
    (HCONV : Hid (∀ w2, Below w.heap.size w w2 → (convert 36 9 (.slice a sl cap)).run Tryz.prog w2 = .ok (.string ⟨L.toArray⟩) w2))
    (HCC : Hid (∀ w2, Below w.heap.size w w2 → w2.cell? ⟨Pb, 0, none⟩ = some (.slice a bs.length cap)))
    (hw1 : IntKind.i64.wrap ((nl : Int) - (dl : Int)) = (sl : Int)) (hs1 : (sl : Int) ≤ (cap : Int)) (_hl : bs.length ≤ cap) (_hcap : cap ≤ 9223372036854775807) (_hnb : nl ≤ bs.length ∧ nl ≤ 20)
    (HAT : Hid (∀ w2, Below w.heap.size w w2 → Calls Tryz.prog 72 #[.string ⟨L.toArray⟩] w2 fun e w3 => e = .returned (.tuple #[.int .i64 v, .nilIface]) ∧ Below w2.heap.size w2 w3))
    (HIT : Hid (∀ w2, Below w.heap.size w w2 → Calls Tryz.prog 41 #[.int .i64 v] w2 fun e w3 => e = .returned (.string ⟨(Dig.dec v).toArray⟩) ∧ Below w2.heap.size w2 w3))
    : Calls Tryz.prog 47 #[.pointer (some ⟨Pb, 0, none⟩), .int .i64 lo, .int .i64 hi] w (NOut S Pb w (.err 5)) := by
  go_enter Tryz.func47, Tryz.ntmps47
  go_wp2_with (first
    | (go_at_call 68; refine HNEAR.out.mono ?_; rintro e w1 ⟨rfl, hb1⟩; have HB1 := Lib.hid hb1; clear hb1)
    | (go_at_call 71; refine (HTRIM.out w1 HB1.out).mono ?_; rintro e w2 ⟨⟨b2, c2, rfl⟩, hb2⟩; have HB2 := Lib.hid (HB1.out.trans (hb2.mono HB1.out.size)); have hconv := HCONV.out w2 HB2.out; have hcc := HCC.out w2 HB2.out; clear hb2)
    | (go_at_call 72; refine (HAT.out w2 HB2.out).mono ?_; rintro e w3 ⟨rfl, hb3⟩; have HB3 := Lib.hid (HB2.out.trans (hb3.mono HB2.out.size)); clear hb3)
    | (go_at_call 41; refine (HIT.out w3 HB3.out).mono ?_; rintro e w4 ⟨rfl, hb4⟩; have HB4 := Lib.hid (HB3.out.trans (hb4.mono HB3.out.size)); clear hb4))
  go_ret2
  exact ⟨Keeps.of_below HB4.out fun k h _ => h, _, rfl⟩

set_option maxRecDepth 100000 in
set_option maxHeartbeats 2000000 in
theorem num_high (S : Nat → Prop) (Pb : Nat) (bs : List UInt8) (lo hi : Int) (w : World) (a : Option Addr) (cap nl dl : Nat) (L : List UInt8) (sl : Nat) (_hsz : (⟨L.toArray⟩ : ByteArray).size = sl) (q0 : ¬ L = []) (q1 : ¬ L = [45]) (v : Int) (_hv : -9223372036854775808 ≤ v ∧ v ≤ 9223372036854775807)  (q3 : Dig.dec v = L) (h5 : lo ≤ v) (h6 : hi < v)
    (_hlo : -9223372036854775808 ≤ lo) (_hlo0 : lo ≤ 9223372036854775807) (_hhi0 : -9223372036854775808 ≤ hi) (_hhi : hi ≤ 9223372036854775807)
    (HNEAR : Hid (Calls Tryz.prog 68 #[.pointer (some ⟨Pb, 0, none⟩), .int .i64 20] w fun e w' => e = .returned (.slice a nl cap) ∧ Below w.heap.size w w'))
    (HTRIM : Hid (∀ w1, Below w.heap.size w w1 → Calls Tryz.prog 71 #[.slice a nl cap, .string ⟨#[45, 48, 49, 50, 51, 52, 53, 54, 55, 56, 57]⟩] w1 fun e w' => (∃ b c, e = .returned (.slice b dl c)) ∧ Below w1.heap.size w1 w'))
    (HCONV : Hid (∀ w2, Below w.heap.size w w2 → (convert 36 9 (.slice a sl cap)).run Tryz.prog w2 = .ok (.string ⟨L.toArray⟩) w2))
    (HCC : Hid (∀ w2, Below w.heap.size w w2 → w2.cell? ⟨Pb, 0, none⟩ = some (.slice a bs.length cap)))
    (hw1 : IntKind.i64.wrap ((nl : Int) - (dl : Int)) = (sl : Int)) (hs1 : (sl : Int) ≤ (cap : Int)) (_hl : bs.length ≤ cap) (_hcap : cap ≤ 9223372036854775807) (_hnb : nl ≤ bs.length ∧ nl ≤ 20)
    (HAT : Hid (∀ w2, Below w.heap.size w w2 → Calls Tryz.prog 72 #[.string ⟨L.toArray⟩] w2 fun e w3 => e = .returned (.tuple #[.int .i64 v, .nilIface]) ∧ Below w2.heap.size w2 w3))
    (HIT : Hid (∀ w2, Below w.heap.size w w2 → Calls Tryz.prog 41 #[.int .i64 v] w2 fun e w3 => e = .returned (.string ⟨(Dig.dec v).toArray⟩) ∧ Below w2.heap.size w2 w3))
    : Calls Tryz.prog 47 #[.pointer (some ⟨Pb, 0, none⟩), .int .i64 lo, .int .i64 hi] w (NOut S Pb w (.err 5)) := by
  go_enter Tryz.func47, Tryz.ntmps47
  go_wp2_with (first
    | (go_at_call 68; refine HNEAR.out.mono ?_; rintro e w1 ⟨rfl, hb1⟩; have HB1 := Lib.hid hb1; clear hb1)
    | (go_at_call 71; refine (HTRIM.out w1 HB1.out).mono ?_; rintro e w2 ⟨⟨b2, c2, rfl⟩, hb2⟩; have HB2 := Lib.hid (HB1.out.trans (hb2.mono HB1.out.size)); have hconv := HCONV.out w2 HB2.out; have hcc := HCC.out w2 HB2.out; clear hb2)
    | (go_at_call 72; refine (HAT.out w2 HB2.out).mono ?_; rintro e w3 ⟨rfl, hb3⟩; have HB3 := Lib.hid (HB2.out.trans (hb3.mono HB2.out.size)); clear hb3)
    | (go_at_call 41; refine (HIT.out w3 HB3.out).mono ?_; rintro e w4 ⟨rfl, hb4⟩; have HB4 := Lib.hid (HB3.out.trans (hb4.mono HB3.out.size)); clear hb4))
  go_ret2
  exact ⟨Keeps.of_below HB4.out fun k h _ => h, _, rfl⟩

set_option maxRecDepth 100000 in
set_option maxHeartbeats 2000000 in
theorem num_ok (S : Nat → Prop) (Pb : Nat) (bs : List UInt8) (lo hi : Int) (w : World) (a : Option Addr) (cap nl dl : Nat) (L : List UInt8) (sl : Nat) (hsz : (⟨L.toArray⟩ : ByteArray).size = sl) (q0 : ¬ L = []) (q1 : ¬ L = [45]) (v : Int) (_hv : -9223372036854775808 ≤ v ∧ v ≤ 9223372036854775807)  (q3 : Dig.dec v = L) (h5 : lo ≤ v) (h6 : v ≤ hi)
    (_hlo : -9223372036854775808 ≤ lo) (_hlo0 : lo ≤ 9223372036854775807) (_hhi0 : -9223372036854775808 ≤ hi) (_hhi : hi ≤ 9223372036854775807)
    (HNEAR : Hid (Calls Tryz.prog 68 #[.pointer (some ⟨Pb, 0, none⟩), .int .i64 20] w fun e w' => e = .returned (.slice a nl cap) ∧ Below w.heap.size w w'))
    (HTRIM : Hid (∀ w1, Below w.heap.size w w1 → Calls Tryz.prog 71 #[.slice a nl cap, .string ⟨#[45, 48, 49, 50, 51, 52, 53, 54, 55, 56, 57]⟩] w1 fun e w' => (∃ b c, e = .returned (.slice b dl c)) ∧ Below w1.heap.size w1 w'))
    (HCONV : Hid (∀ w2, Below w.heap.size w w2 → (convert 36 9 (.slice a sl cap)).run Tryz.prog w2 = .ok (.string ⟨L.toArray⟩) w2))
    (HCC : Hid (∀ w2, Below w.heap.size w w2 → w2.cell? ⟨Pb, 0, none⟩ = some (.slice a bs.length cap)))
    (hw1 : IntKind.i64.wrap ((nl : Int) - (dl : Int)) = (sl : Int)) (hs1 : (sl : Int) ≤ (cap : Int)) (_hl : bs.length ≤ cap) (_hcap : cap ≤ 9223372036854775807) (_hnb : nl ≤ bs.length ∧ nl ≤ 20)
    (HAT : Hid (∀ w2, Below w.heap.size w w2 → Calls Tryz.prog 72 #[.string ⟨L.toArray⟩] w2 fun e w3 => e = .returned (.tuple #[.int .i64 v, .nilIface]) ∧ Below w2.heap.size w2 w3))
    (HIT : Hid (∀ w2, Below w.heap.size w w2 → Calls Tryz.prog 41 #[.int .i64 v] w2 fun e w3 => e = .returned (.string ⟨(Dig.dec v).toArray⟩) ∧ Below w2.heap.size w2 w3))
    (HTXT : Hid (∀ w4, Below w.heap.size w w4 → Calls Tryz.prog 70 #[.pointer (some ⟨Pb, 0, none⟩), .int .i64 sl] w4 (TOut S Pb w4 (Rp.textP sl bs))))
    : Calls Tryz.prog 47 #[.pointer (some ⟨Pb, 0, none⟩), .int .i64 lo, .int .i64 hi] w (NOut S Pb w ((Rp.textP sl bs).map fun _ => v)) := by
  go_enter Tryz.func47, Tryz.ntmps47
  go_wp2_with (first
    | (go_at_call 68; refine HNEAR.out.mono ?_; rintro e w1 ⟨rfl, hb1⟩; have HB1 := Lib.hid hb1; clear hb1)
    | (go_at_call 71; refine (HTRIM.out w1 HB1.out).mono ?_; rintro e w2 ⟨⟨b2, c2, rfl⟩, hb2⟩; have HB2 := Lib.hid (HB1.out.trans (hb2.mono HB1.out.size)); have hconv := HCONV.out w2 HB2.out; have hcc := HCC.out w2 HB2.out; clear hb2)
    | (go_at_call 72; refine (HAT.out w2 HB2.out).mono ?_; rintro e w3 ⟨rfl, hb3⟩; have HB3 := Lib.hid (HB2.out.trans (hb3.mono HB2.out.size)); clear hb3)
    | (go_at_call 41; refine (HIT.out w3 HB3.out).mono ?_; rintro e w4 ⟨rfl, hb4⟩; have HB4 := Lib.hid (HB3.out.trans (hb4.mono HB3.out.size)); clear hb4)
    | (go_at_call 70; refine (HTXT.out w4 HB4.out).mono ?_; rintro e w5 ht; obtain ⟨sv, c5, rfl⟩ := ht.ret; have HT := Lib.hid ht; clear ht))
  go_ret2
  exact ht_nout HB4.out HT.out

end Go.Proofs.YtbkhnnjjpelfcaaGreatDoor
namespace Go.Proofs.YtbkhnnjjpelfcaaGreatDoor
open Go.RowKit Go.Shelf

set_option maxRecDepth 100000 in
set_option maxHeartbeats 8000000 in
theorem rpNumber_any (S : Nat → Prop) (Pb : Nat) (bs : List UInt8) (lo hi : Int) (w : World) (h : Rst S Pb w bs) (hS : ¬ S Pb) (hSlt : ∀ k, S k → k < w.heap.size) (hlo : -9223372036854775808 ≤ lo) (hlo0 : lo ≤ 9223372036854775807) (hhi0 : -9223372036854775808 ≤ hi) (hhi : hi ≤ 9223372036854775807) (henv : Env w) :
    Calls Tryz.prog 47 #[.pointer (some ⟨Pb, 0, none⟩), .int .i64 lo, .int .i64 hi] w (NOut S Pb w (Rp.devP lo hi bs)) := by
  have HRST := Lib.hid h
  obtain ⟨a, cap, hbx, hbt⟩ := h
  have hPb : Pb < w.heap.size := (Array.getElem?_eq_some_iff.1 hbx).1
  have hl := hbt.1
  have hcap := hbt.2.1
  have hnear := near_any Pb bs.length cap a 20 w (Boxed.cell hbx) hl
  rw [show min bs.length 20 = (bs.take 20).length by rw [List.length_take]; omega] at hnear
  have HBT := Lib.hid hbt
  have HENV := Lib.hid henv
  have hlt := lead_take bs
  obtain ⟨nl, hnl⟩ : ∃ nl, (bs.take 20).length = nl := ⟨_, rfl⟩
  obtain ⟨dl, hdl⟩ : ∃ dl, ((bs.take 20).dropWhile fun c => Rp.numC.contains c).length = dl := ⟨_, rfl⟩
  obtain ⟨L, hL⟩ : ∃ L, Rp.lead bs = L := ⟨_, rfl⟩
  obtain ⟨sl, hsl⟩ : ∃ sl, L.length = sl := ⟨_, rfl⟩
  rw [hnl, hdl, hL] at hlt
  have hdle : dl ≤ nl := by rw [← hdl, ← hnl]; exact (List.dropWhile_sublist _).length_le
  have hsl2 : nl - dl = sl := by
    have := congrArg List.length hlt
    rw [List.length_take, hnl, hsl] at this
    omega
  have hnb : nl ≤ bs.length ∧ nl ≤ 20 := by rw [← hnl, List.length_take]; omega
  have hw1 : IntKind.i64.wrap ((nl : Int) - (dl : Int)) = (sl : Int) := by rw [show (nl : Int) - (dl : Int) = (sl : Int) by omega]; exact IntWalk.i64_in _ (by omega)
  have hs0 : (0 : Int) ≤ (sl : Int) := by omega
  have hs1 : (sl : Int) ≤ (cap : Int) := by omega
  have HCONV : Hid (∀ w2, Below w.heap.size w w2 → (convert 36 9 (.slice a sl cap)).run Tryz.prog w2 = .ok (.string ⟨L.toArray⟩) w2) := Lib.hid fun w2 hb => by
    have := (((hbt.later hb).to 20).to (nl - dl)).conv
    rwa [hlt, hsl] at this
  have HCC : Hid (∀ w2, Below w.heap.size w w2 → w2.cell? ⟨Pb, 0, none⟩ = some (.slice a bs.length cap)) := Lib.hid fun w2 hb => Boxed.cell ((hb.block Pb hPb).trans hbx)
  have hz0 : ((⟨L.toArray⟩ : ByteArray).toList == (⟨#[]⟩ : ByteArray).toList) = decide (L = []) := i64_str []
  have hz1 : ((⟨L.toArray⟩ : ByteArray).toList == (⟨#[45]⟩ : ByteArray).toList) = decide (L = [45]) := i64_str [45]
  have hsz : (⟨L.toArray⟩ : ByteArray).size = sl := by rw [← hsl]; show L.toArray.size = _; simp
  have HDEV : Hid (Rp.devP lo hi bs = if (L = [] ∨ (L = [45] ∧ lo < 0)) ∧ sl = bs.length then .err 6 else match Lib.atoiAll L with
    | .ok v => if Dig.dec v = L ∧ lo ≤ v ∧ v ≤ hi then (Rp.textP sl bs).map fun _ => v else .err 5
    | _ => .err 5) := Lib.hid (by unfold Rp.devP; rw [hL, hsl] <;> rfl)
  have HSZ := Lib.hid hsz
  rw [hnl] at hnear
  have HNEAR := Lib.hid hnear
  have hsl20 : sl ≤ 20 := by omega
  clear hnear hbt henv hlt hL hsl2 hdle hbx
  have HTRIM : Hid (∀ w1, Below w.heap.size w w1 → Calls Tryz.prog 71 #[.slice a nl cap, .string ⟨#[45, 48, 49, 50, 51, 52, 53, 54, 55, 56, 57]⟩] w1 fun e w' => (∃ b c, e = .returned (.slice b dl c)) ∧ Below w1.heap.size w1 w') := Lib.hid fun w1 hb => by
    have := trim_any S w1 a cap (bs.take 20) ((HBT.out.later hb).to 20)
    rwa [hnl, hdl] at this
  have hat : ∀ w2, Below w.heap.size w w2 → (∀ v, Lib.atoiAll L = .ok v → Calls Tryz.prog 72 #[.string ⟨L.toArray⟩] w2 fun e w3 => e = .returned (.tuple #[.int .i64 v, .nilIface]) ∧ Below w2.heap.size w2 w3) ∧
      ((∀ v, Lib.atoiAll L ≠ .ok v) → ∃ sat : Int, (-9223372036854775808 ≤ sat ∧ sat ≤ 9223372036854775807) ∧ (Lib.atoiAll L = .«syntax» → sat = 0) ∧ (Lib.atoiAll L = .range → sat = Lib.atoiSat L) ∧ Calls Tryz.prog 72 #[.string ⟨L.toArray⟩] w2 fun e w3 => ∃ te pe, e = .returned (.tuple #[.int .i64 sat, .iface te pe]) ∧ Below w2.heap.size w2 w3) := fun w2 hb => by
    have he := HENV.out.later hb
    refine ⟨fun v hv => ?_, fun hn => ?_⟩
    · refine (Tryz.strconv_Atoi_ok ⟨L.toArray⟩ (by rw [HSZ.out]; omega) v hv w2).mono ?_
      rintro e w3 ⟨rfl, hb3⟩
      refine ⟨rfl, ?_⟩
      rcases hb3 with rfl | ⟨t, rfl⟩
      · exact Below.refl _ _
      · exact Lib.bytesWorld_below w2 _ t
    · cases hat : Lib.atoiAll L with
      | ok v => exact (hn v hat).elim
      | «syntax» =>
        obtain ⟨te, pe, hev⟩ := he.syn
        refine ⟨0, by omega, fun _ => rfl, fun h => (by cases h), (Tryz.strconv_Atoi_syntax ⟨L.toArray⟩ (by rw [HSZ.out]; omega) hat _ w2 hev (.inr ⟨_, _, rfl⟩)).mono ?_⟩
        rintro e w3 ⟨N, rfl, -, -, hb3⟩
        exact ⟨_, _, rfl, hb3⟩
      | range =>
        obtain ⟨te, pe, hev⟩ := he.rng
        refine ⟨Lib.atoiSat L, Lib.atoiSat_bounds L, fun h => by (cases h), fun _ => rfl, (Tryz.strconv_Atoi_range ⟨L.toArray⟩ (by rw [HSZ.out]; omega) hat _ w2 hev (.inr ⟨_, _, rfl⟩)).mono ?_⟩
        rintro e w3 ⟨N, rfl, -, -, hb3⟩
        exact ⟨_, _, rfl, hb3⟩
  rw [HDEV.out]
  by_cases hm0 : L = []
  · subst hm0
    have hs00 : sl = 0 := by rw [← hsl]; rfl
    subst hs00
    have h0 := num_nil S Pb bs lo hi w a cap nl dl _ rfl hlo hlo0 hhi0 hhi HNEAR HTRIM HCONV HCC hw1 hs1 hl hcap hnb (Lib.hid fun w2 hb => by
      obtain ⟨sat, _, h2, _, h4⟩ := (hat w2 hb).2 (fun v h => by rw [atoi_none] at h; cases h)
      rw [h2 atoi_none] at h4
      exact h4)
    refine cast ?_ h0
    congr 1
    rw [atoi_none]
    by_cases he : (0 : Nat) = bs.length
    · rw [if_pos ⟨.inl rfl, he⟩]
      unfold moreP moreE
      rw [if_pos (by rw [← he]; rfl)]
    · rw [if_neg (fun h => he h.2)]
      unfold moreP moreE
      rw [if_neg (by simp; omega)]
  by_cases hm1 : L = [45]
  · subst hm1
    have hs00 : sl = 1 := by rw [← hsl]; rfl
    subst hs00
    have hAT : Hid (∀ w2, Below w.heap.size w w2 → Calls Tryz.prog 72 #[.string ⟨#[45]⟩] w2 fun e w3 => ∃ te pe, e = .returned (.tuple #[.int .i64 0, .iface te pe]) ∧ Below w2.heap.size w2 w3) := Lib.hid fun w2 hb => by
      obtain ⟨sat, _, h2, _, h4⟩ := (hat w2 hb).2 (fun v h => by rw [atoi_sign] at h; cases h)
      rw [h2 atoi_sign] at h4
      exact h4
    by_cases hlo9 : lo < 0
    · have h0 := num_sign S Pb bs lo hi w a cap nl dl _ rfl hlo9 hlo hlo0 hhi0 hhi HNEAR HTRIM HCONV HCC hw1 hs1 hl hcap hnb hAT
      refine cast ?_ h0
      congr 1
      rw [atoi_sign]
      by_cases he : (1 : Nat) = bs.length
      · rw [if_pos ⟨.inr ⟨rfl, hlo9⟩, he⟩]
        unfold moreP moreE
        rw [if_pos (by rw [← he]; rfl)]
      · rw [if_neg (fun h => he h.2)]
        unfold moreP moreE
        rw [if_neg (by simp; omega)]
    · have h0 := num_sign2 S Pb bs lo hi w a cap nl dl hlo9 hlo hlo0 hhi0 hhi HNEAR HTRIM HCONV HCC hw1 hs1 hl hcap hnb hAT
      refine cast ?_ h0
      congr 1
      rw [atoi_sign, if_neg (fun h => by rcases h.1 with h | h; (cases h); exact hlo9 h.2)]
  · rw [if_neg (fun h => by rcases h.1 with h | h; exact hm0 h; exact hm1 h.1)]
    by_cases hok : ∃ v, Lib.atoiAll L = .ok v
    · obtain ⟨v, hv⟩ := hok
      have hvb := Lib.atoiAll_bounds hv
      have hAT : Hid (∀ w2, Below w.heap.size w w2 → Calls Tryz.prog 72 #[.string ⟨L.toArray⟩] w2 fun e w3 => e = .returned (.tuple #[.int .i64 v, .nilIface]) ∧ Below w2.heap.size w2 w3) := Lib.hid fun w2 hb => (hat w2 hb).1 v hv
      have hIT : Hid (∀ w2, Below w.heap.size w w2 → Calls Tryz.prog 41 #[.int .i64 v] w2 fun e w3 => e = .returned (.string ⟨(Dig.dec v).toArray⟩) ∧ Below w2.heap.size w2 w3) := Lib.hid fun w2 hb => by
        have := Tryz.strconv_Itoa v hvb.1 hvb.2 w2 (HENV.out.later hb).tab
        rw [itoa_dec] at this
        refine this.mono ?_
        rintro e w4 ⟨rfl, k4, os4, rfl⟩
        exact ⟨rfl, Lib.below_grow w2.heap.size w2 (Nat.le_refl _) k4 os4⟩
      rw [hv]
      show Calls _ _ _ w (NOut S Pb w (if Dig.dec v = L ∧ lo ≤ v ∧ v ≤ hi then (Rp.textP sl bs).map fun _ => v else .err 5))
      by_cases h3 : Dig.dec v = L ∧ lo ≤ v ∧ v ≤ hi
      · rw [if_pos h3]
        exact num_ok S Pb bs lo hi w a cap nl dl L sl hsz hm0 hm1 v hvb h3.1 h3.2.1 h3.2.2 hlo hlo0 hhi0 hhi HNEAR HTRIM HCONV HCC hw1 hs1 hl hcap hnb hAT hIT
          (Lib.hid fun w4 hb => text_any S Pb bs sl w4 (HRST.out.keeps (T := fun k => k < w.heap.size) (Keeps.of_below hb fun k h _ => h) hSlt hPb) hS)
      · rw [if_neg h3]
        by_cases hd : Dig.dec v = L
        · by_cases h5 : v < lo
          · exact num_low S Pb bs lo hi w a cap nl dl L sl hsz hm0 hm1 v hvb hd h5 hlo hlo0 hhi0 hhi HNEAR HTRIM HCONV HCC hw1 hs1 hl hcap hnb hAT hIT
          · exact num_high S Pb bs lo hi w a cap nl dl L sl hsz hm0 hm1 v hvb hd (Int.not_lt.1 h5) (Int.not_le.1 fun h => h3 ⟨hd, Int.not_lt.1 h5, h⟩) hlo hlo0 hhi0 hhi HNEAR HTRIM HCONV HCC hw1 hs1 hl hcap hnb hAT hIT
        · exact num_other S Pb bs lo hi w a cap nl dl L sl hsz hm0 hm1 v hvb hd hlo hlo0 hhi0 hhi HNEAR HTRIM HCONV HCC hw1 hs1 hl hcap hnb hAT hIT
    · have hn : ∀ v, Lib.atoiAll L ≠ .ok v := fun v h => hok ⟨v, h⟩
      obtain ⟨sat, hsat, hsx⟩ : ∃ sat : Int, (-9223372036854775808 ≤ sat ∧ sat ≤ 9223372036854775807) ∧ ∀ w2, Below w.heap.size w w2 → Calls Tryz.prog 72 #[.string ⟨L.toArray⟩] w2 fun e w3 => ∃ te pe, e = .returned (.tuple #[.int .i64 sat, .iface te pe]) ∧ Below w2.heap.size w2 w3 := by
        cases hc : Lib.atoiAll L with
        | ok v => exact (hn v hc).elim
        | «syntax» => exact ⟨0, by omega, fun w2 hb => by
            obtain ⟨sat, _, h2, _, h4⟩ := (hat w2 hb).2 hn
            rw [h2 hc] at h4
            exact h4⟩
        | range => exact ⟨Lib.atoiSat L, Lib.atoiSat_bounds L, fun w2 hb => by
            obtain ⟨sat, _, _, h3, h4⟩ := (hat w2 hb).2 hn
            rw [h3 hc] at h4
            exact h4⟩
      have h0 := num_bad S Pb bs lo hi w a cap nl dl L sl hsz hm0 hm1 sat hsat hlo hlo0 hhi0 hhi HNEAR HTRIM HCONV HCC hw1 hs1 hl hcap hnb (Lib.hid hsx)
      refine cast ?_ h0
      congr 1
      cases hc : Lib.atoiAll L with
      | ok v => exact (hn v hc).elim
      | «syntax» => rfl
      | range => rfl
end Go.Proofs.YtbkhnnjjpelfcaaGreatDoor
namespace Go.Proofs.YtbkhnnjjpelfcaaGreatDoor
open Go.RowKit Go.Shelf
attribute [local go_sem] Oper.semAt_some

namespace Rp
/-- the bytes ahead of a line's end. -/
def runL (bs : List UInt8) : List UInt8 := bs.takeWhile fun b => b != 13 && b != 10

theorem runL_le (bs : List UInt8) : (runL bs).length ≤ bs.length := (List.takeWhile_sublist _).length_le

theorem take_runL (bs : List UInt8) : bs.take (runL bs).length = runL bs := by
  have h := List.takeWhile_append_dropWhile (p := fun b : UInt8 => b != 13 && b != 10) (l := bs)
  have : runL bs ++ bs.dropWhile (fun b => b != 13 && b != 10) = bs := h
  conv => lhs; rw [← this]
  generalize bs.dropWhile (fun b => b != 13 && b != 10) = d at this
  have e : runL (runL bs ++ d) = runL bs := by rw [this]
  rw [e, List.take_left]

theorem runL_take (n : Nat) : ∀ bs : List UInt8, runL (bs.take n) = (runL bs).take n := by
  induction n with
  | zero => intro bs; simp [runL]
  | succ n ih =>
    intro bs
    cases bs with
    | nil => simp [runL]
    | cons x bs =>
      have := ih bs
      unfold runL at this ⊢
      rw [List.take_succ_cons, List.takeWhile_cons, List.takeWhile_cons]
      split
      · rw [List.take_succ_cons, this]
      · simp

theorem line_text (bs : List UInt8) : textP (runL (bs.take 512)).length bs = lineP bs := by
  have hle := runL_le bs
  unfold lineP textP
  show _ = if 512 < (runL bs).length then .err 5 else endP (runL bs) (bs.drop (runL bs).length)
  rw [runL_take, List.length_take]
  by_cases h : 512 < (runL bs).length
  · rw [if_pos h, show min 512 (runL bs).length = 512 by omega, if_neg (by omega)]
    have h2 : (bs.drop 512).head? = (runL bs)[512]? := by
      rw [List.head?_drop]
      have := congrArg (fun l => l[512]?) (take_runL bs)
      simp only [List.getElem?_take, h, if_true] at this
      exact this
    have h3 : (runL bs)[512]? = some ((runL bs)[512]'h) := List.getElem?_eq_getElem h
    have h4 : (runL bs)[512]'h ∈ runL bs := List.getElem_mem h
    have h5 : ∀ x ∈ runL bs, (x != 13 && x != 10) = true := fun x hx => by
      have := List.all_takeWhile (p := fun b : UInt8 => b != 13 && b != 10) (l := bs)
      exact List.all_eq_true.1 this x hx
    have h6 := h5 _ h4
    rw [h3] at h2
    cases hd : bs.drop 512 with
    | nil => rw [hd] at h2; cases h2
    | cons y r =>
      rw [hd] at h2
      simp only [List.head?_cons, Option.some.injEq] at h2
      rw [← h2] at h6
      unfold endP
      simp only [Bool.and_eq_true, bne_iff_ne] at h6
      simp [h6.1]
  · rw [if_neg h, show min 512 (runL bs).length = (runL bs).length by omega, if_neg (by omega), take_runL]
end Rp

/-- what bytes.IndexAny says of these bytes and "\r\n". -/
def IA (t : List UInt8) : Prop := ∀ (S : Nat → Prop) (W : World) (a : Option Addr) (cap : Nat), Bt S W a cap t → Env W →
  Calls Tryz.prog 69 #[.slice a t.length cap, .string ⟨#[13, 10]⟩] W fun e W' => e = .returned (.int .i64 (if (Rp.runL t).length = t.length then -1 else ((Rp.runL t).length : Int))) ∧ Below W.heap.size W W'

set_option maxRecDepth 100000 in
set_option maxHeartbeats 2000000 in
theorem line_any (S : Nat → Prop) (Pb : Nat) (bs : List UInt8) (w : World) (h : Rst S Pb w bs) (hS : ¬ S Pb) (hSlt : ∀ k, S k → k < w.heap.size) (henv : Env w) (hia : IA (bs.take 512)) :
    Calls Tryz.prog 46 #[.pointer (some ⟨Pb, 0, none⟩)] w (TOut S Pb w (Rp.lineP bs)) := by
  have HRST := Lib.hid h
  obtain ⟨a, cap, hbx, hbt⟩ := h
  have hPb : Pb < w.heap.size := (Array.getElem?_eq_some_iff.1 hbx).1
  have hl := hbt.1
  have hnear := near_any Pb bs.length cap a 512 w (Boxed.cell hbx) hl
  rw [show min bs.length 512 = (bs.take 512).length by rw [List.length_take]; omega] at hnear
  rw [← Rp.line_text]
  have hrl := Rp.runL_le (bs.take 512)
  have htl : (bs.take 512).length ≤ 512 := by rw [List.length_take]; omega
  have HIA : Hid (∀ W, Below w.heap.size w W → Calls Tryz.prog 69 #[.slice a (bs.take 512).length cap, .string ⟨#[13, 10]⟩] W fun e W' => e = .returned (.int .i64 (if (Rp.runL (bs.take 512)).length = (bs.take 512).length then -1 else ((Rp.runL (bs.take 512)).length : Int))) ∧ Below W.heap.size W W') :=
    Lib.hid fun W hb => hia S W a cap ((hbt.later hb).to 512) (henv.later hb)
  have HTXT : Hid (∀ W, Below w.heap.size w W → Calls Tryz.prog 70 #[.pointer (some ⟨Pb, 0, none⟩), .int .i64 (Rp.runL (bs.take 512)).length] W (TOut S Pb W (Rp.textP (Rp.runL (bs.take 512)).length bs))) :=
    Lib.hid fun W hb => text_any S Pb bs _ W (HRST.out.keeps (T := fun k => k < w.heap.size) (Keeps.of_below hb fun k h _ => h) hSlt hPb) hS
  have HNEAR := Lib.hid hnear
  clear hnear hia hbt hbx henv HRST
  generalize Rp.textP (Rp.runL (bs.take 512)).length bs = o at HTXT ⊢
  generalize (Rp.runL (bs.take 512)).length = rl at HIA HTXT hrl
  generalize (bs.take 512).length = tl at HIA HNEAR hrl htl
  by_cases he : rl = tl
  · subst he
    rw [if_pos rfl] at HIA
    go_enter Tryz.func46, Tryz.ntmps46
    go_wp2_with (first
      | (go_at_call 68; refine HNEAR.out.mono ?_; rintro e w1 ⟨rfl, hb1⟩; have HB1 := Lib.hid hb1; clear hb1)
      | (go_at_call 69; refine (HIA.out w1 HB1.out).mono ?_; rintro e w2 ⟨rfl, hb2⟩; have HB2 := Lib.hid (HB1.out.trans (hb2.mono HB1.out.size)); clear hb2)
      | (go_at_call 70; refine (HTXT.out w2 HB2.out).mono ?_; rintro e w3 ht; obtain ⟨sv, c5, rfl⟩ := ht.ret; have HT := Lib.hid ht; clear ht))
    go_ret2
    exact ⟨(Keeps.of_below HB2.out fun k h _ => h).trans (HT.out.1.mono fun k _ h => h), HT.out.2⟩
  · rw [if_neg he] at HIA
    have h0 : (0 : Int) ≤ (rl : Int) := by omega
    have h1 : ¬ (rl : Int) < 0 := by omega
    go_enter Tryz.func46, Tryz.ntmps46
    go_wp2_with (first
      | (go_at_call 68; refine HNEAR.out.mono ?_; rintro e w1 ⟨rfl, hb1⟩; have HB1 := Lib.hid hb1; clear hb1)
      | (go_at_call 69; refine (HIA.out w1 HB1.out).mono ?_; rintro e w2 ⟨rfl, hb2⟩; have HB2 := Lib.hid (HB1.out.trans (hb2.mono HB1.out.size)); clear hb2)
      | (go_at_call 70; refine (HTXT.out w2 HB2.out).mono ?_; rintro e w3 ht; obtain ⟨sv, c5, rfl⟩ := ht.ret; have HT := Lib.hid ht; clear ht))
    go_ret2
    exact ⟨(Keeps.of_below HB2.out fun k h _ => h).trans (HT.out.1.mono fun k _ h => h), HT.out.2⟩
end Go.Proofs.YtbkhnnjjpelfcaaGreatDoor
namespace Go.Proofs.YtbkhnnjjpelfcaaGreatDoor
open Go.RowKit Go.Shelf
attribute [local go_sem] Oper.semAt_some

namespace Rp
def bulkD (bs : List UInt8) : Out R := (devP (-1) 1048576 bs).bind fun n r => if n < 0 then .ok (.mk 5 [] 0 []) r else (textP n.toNat r).map fun s => .mk 4 s 0 []
def arrD (f : List UInt8 → Out R) (bs : List UInt8) : Out R := (devP 0 65536 bs).bind fun n r => (manyP f n.toNat r).map fun l => .mk 6 [] 0 l
def markD (A : List UInt8 → Out R) : List UInt8 → Out R
  | [] => .err 6
  | x :: r =>
    if x = 43 then (lineP r).map fun s => .mk 1 s 0 []
    else if x = 45 then (lineP r).map fun s => .mk 2 s 0 []
    else if x = 58 then (devP (-9223372036854775808) 9223372036854775807 r).map fun n => .mk 3 [] n []
    else if x = 36 then bulkD r
    else if x = 42 then A r
    else .err 5
/-- a reply, so deep at most, as the reader reads it. -/
def replyD : Nat → List UInt8 → Out R
  | 0 => markD fun _ => .err 5
  | d + 1 => markD (arrD (replyD d))
end Rp

/-- what is told of a reply that was read. -/
def ROut (S : Nat → Prop) (Pb : Nat) (w : World) (o : Rp.Out Rp.R) (e : Ending) (w' : World) : Prop :=
  Keeps (fun k => k ≠ Pb) w w' ∧ match o with
    | .ok r t => (∃ v, e = .returned (.tuple #[v, .int .i64 0]) ∧ Rep (fun k => w.heap.size ≤ k) w' r v) ∧ Rst S Pb w' t
    | .err c => c ≠ 0 ∧ ∃ k s n a m cap, e = .returned (.tuple #[.agg #[.int .i64 k, .string s, .int .i64 n, .slice a m cap], .int .i64 c])

theorem ROut.form {S : Nat → Prop} {Pb : Nat} {w : World} {o : Rp.Out Rp.R} {e : Ending} {w' : World} (h : ROut S Pb w o e w') : ∃ k s n a m cap c, e = .returned (.tuple #[.agg #[.int .i64 k, .string s, .int .i64 n, .slice a m cap], .int .i64 c]) := by
  obtain ⟨_, h⟩ := h
  cases o with
  | ok r t =>
    obtain ⟨⟨v, rfl, hr⟩, _⟩ := h
    obtain ⟨a, cap, rfl, _⟩ := hr.parts
    exact ⟨_, _, _, _, _, _, _, rfl⟩
  | err c =>
    obtain ⟨_, k, s, n, a, m, cap, rfl⟩ := h
    exact ⟨_, _, _, _, _, _, _, rfl⟩

theorem NOut.ret {S : Nat → Prop} {Pb : Nat} {w : World} {o : Rp.Out Int} {e : Ending} {w' : World} (h : NOut S Pb w o e w') : ∃ n c, e = .returned (.tuple #[.int .i64 n, .int .i64 c]) := by
  obtain ⟨_, h⟩ := h
  cases o with
  | ok s r => exact ⟨_, _, h.1⟩
  | err c =>
    obtain ⟨n, h⟩ := h
    exact ⟨_, _, h⟩

theorem devP_range {lo hi n : Int} {bs r : List UInt8} (h : Rp.devP lo hi bs = .ok n r) : lo ≤ n ∧ n ≤ hi ∧ r.length ≤ bs.length := by
  unfold Rp.devP at h
  split at h
  · cases h
  · split at h
    · rename_i v _
      split at h
      · rename_i hv
        cases ht : Rp.textP (Rp.lead bs).length bs with
        | err c => rw [ht] at h; cases h
        | ok s t =>
          rw [ht] at h
          injection h with h1 h2
          subst h1 h2
          refine ⟨hv.2.1, hv.2.2, ?_⟩
          unfold Rp.textP at ht
          split at ht
          · cases ht
          · rw [Rp.endP_cases] at ht
            split at ht
            · injection ht with _ ht
              rw [← ht, List.length_drop, List.length_drop]
              omega
            · split at ht <;> cases ht
      · cases h
    · cases h

theorem devP_err {lo hi c : Int} {bs : List UInt8} (h : Rp.devP lo hi bs = .err c) : c = 5 ∨ c = 6 := by
  have he : ∀ {α : Type} (a : α) (b : List UInt8) (c : Int), Rp.endP a b = .err c → c = 5 ∨ c = 6 := fun a b c h => by
    rw [Rp.endP_cases] at h
    split at h
    · cases h
    · split at h <;> injection h with h
      · exact .inr h.symm
      · exact .inl h.symm
  unfold Rp.devP at h
  split at h
  · injection h with h; exact .inr h.symm
  · split at h
    · split at h
      · cases ht : Rp.textP (Rp.lead bs).length bs with
        | ok s t => rw [ht] at h; cases h
        | err c' =>
          rw [ht] at h
          injection h with h
          subst h
          unfold Rp.textP at ht
          split at ht
          · injection ht with ht; exact .inr ht.symm
          · exact he _ _ _ ht
      · injection h with h; exact .inl h.symm
    · injection h with h; exact .inl h.symm

theorem textP_err {n : Nat} {c : Int} {bs : List UInt8} (h : Rp.textP n bs = .err c) : c = 5 ∨ c = 6 := by
  unfold Rp.textP at h
  split at h
  · injection h with h; exact .inr h.symm
  · rw [Rp.endP_cases] at h
    split at h
    · cases h
    · split at h <;> injection h with h
      · exact .inr h.symm
      · exact .inl h.symm

theorem lineP_err {c : Int} {bs : List UInt8} (h : Rp.lineP bs = .err c) : c = 5 ∨ c = 6 := by
  rw [← Rp.line_text] at h
  exact textP_err h

/-- a reply without elements. -/
theorem rep_plain {S : Nat → Prop} {w : World} {k n : Int} {s : List UInt8} (hf : Fit k s n 0 0) : Rep S w (.mk k s n []) (.agg #[.int .i64 k, .string ⟨s.toArray⟩, .int .i64 n, .slice none 0 0]) :=
  Rep.intro (l := []) (a := none) (cap := 0) hf (.inl rfl)

end Go.Proofs.YtbkhnnjjpelfcaaGreatDoor
namespace Go.Proofs.YtbkhnnjjpelfcaaGreatDoor
open Go.RowKit Go.Shelf
attribute [local go_sem] Oper.semAt_some

/-- four stores into a block of four cells. -/
def set4 (A : World) (b : Nat) (x y z u : Value) : World := (((A.setCell ⟨b, 0, none⟩ x).setCell ⟨b, 1, none⟩ y).setCell ⟨b, 2, none⟩ z).setCell ⟨b, 3, none⟩ u

theorem heap_four {A : World} {b t : Nat} {p q r s : Value} (h : A.heap[b]? = some (.cells #[p, q, r, s] t (0, 0))) (x y z u : Value) : (set4 A b x y z u).heap[b]? = some (.cells #[x, y, z, u] t (0, 0)) := by
  simp [set4, World.setCell, Array.getElem?_modify, h]

theorem cells_four' {A : World} {b t : Nat} {x y z u : Value} (h : A.heap[b]? = some (.cells #[x, y, z, u] t (0, 0))) : A.cell? ⟨b, 0, none⟩ = some x ∧ A.cell? ⟨b, 1, none⟩ = some y ∧ A.cell? ⟨b, 2, none⟩ = some z ∧ A.cell? ⟨b, 3, none⟩ = some u ∧ A.frozen? ⟨b, 0, none⟩ = false ∧ A.frozen? ⟨b, 1, none⟩ = false ∧ A.frozen? ⟨b, 2, none⟩ = false ∧ A.frozen? ⟨b, 3, none⟩ = false := by
  simp [World.cell?, World.frozen?, h]

theorem keeps_set4 {T : Nat → Prop} {w A : World} (h : Keeps T w A) {b : Nat} (hb : w.heap.size ≤ b ∨ ¬ T b) (x y z u : Value) : Keeps T w (set4 A b x y z u) :=
  (((h.setCell (p := ⟨b, 0, none⟩) hb x).setCell (p := ⟨b, 1, none⟩) hb y).setCell (p := ⟨b, 2, none⟩) hb z).setCell (p := ⟨b, 3, none⟩) hb u

theorem set4_size (A : World) (b : Nat) (x y z u : Value) : (set4 A b x y z u).heap.size = A.heap.size := by simp [set4]

/-- the reply's box, new, and what was not read yet, in the worlds of a call. -/
theorem box_kept {w W : World} {Pb : Nat} {cs : Array Value} (hk : Keeps (fun k => k ≠ Pb) (w.alloc (.cells cs 45)) W) (hP : Pb < w.heap.size) : W.heap[w.heap.size]? = some (.cells cs 45 (0, 0)) :=
  hk.heap (World.alloc_heap_new w _) (by omega)

set_option maxRecDepth 100000 in
set_option maxHeartbeats 4000000 in
theorem bulk_any (S : Nat → Prop) (Pb : Nat) (bs : List UInt8) (w : World) (h : Rst S Pb w bs) (hS : ¬ S Pb) (hSlt : ∀ k, S k → k < w.heap.size) (henv : Env w) :
    Calls Tryz.prog 48 #[.pointer (some ⟨Pb, 0, none⟩)] w (ROut S Pb w (Rp.bulkD bs)) := by
  have hPb := h.lt
  obtain ⟨w1, hw1⟩ : ∃ w1, w.alloc (.cells #[.int .i64 0, .string ⟨#[]⟩, .int .i64 0, .slice none 0 0] 45) = w1 := ⟨_, rfl⟩
  have hk1 : Keeps (fun _ => True) w w1 := by rw [← hw1]; exact (Keeps.refl _ _).alloc _
  have hs1 : w1.heap.size = w.heap.size + 1 := by rw [← hw1]; simp
  have hr1 : Rst S Pb w1 bs := h.keeps hk1 (fun _ _ => trivial) trivial
  have hnum := rpNumber_any S Pb bs (-1) 1048576 w1 hr1 hS (fun k hk => by have := hSlt k hk; omega) (by omega) (by omega) (by omega) (by omega) (henv.keeps hk1 (fun _ _ => trivial))
  have HBK : Hid (∀ W, Keeps (fun k => k ≠ Pb) w1 W → W.heap[w.heap.size]? = some (.cells #[.int .i64 0, .string ⟨#[]⟩, .int .i64 0, .slice none 0 0] 45 (0, 0))) := Lib.hid fun W hk => by rw [← hw1] at hk; exact box_kept hk hPb
  have HK1 := Lib.hid hk1
  have HS1 := Lib.hid hs1
  have HSlt := Lib.hid hSlt
  have HENV := Lib.hid henv
  have HPb := Lib.hid hPb
  have HW1 := Lib.hid hw1
  clear hw1 hk1 hs1 hr1 h henv hSlt
  cases ho : Rp.devP (-1) 1048576 bs with
  | err c =>
    rw [ho] at hnum
    have HR : Hid (Rp.bulkD bs = .err c) := Lib.hid (by unfold Rp.bulkD; rw [ho]; rfl)
    have hc := devP_err ho
    clear ho
    have hc' : ¬ c = 0 := by omega
    go_enter Tryz.func48, Tryz.ntmps48
    go_wp2_with (rw [HW1.out]; go_at_call 47; refine hnum.mono ?_; rintro e w2 ⟨hk2, n, rfl⟩; obtain ⟨b0, b1, b2, b3, f0, f1, f2, f3⟩ := cells_four' (HBK.out w2 hk2); have HK2 := Lib.hid hk2; clear hk2)
    obtain ⟨h0, h1, h2, h3⟩ := cells_four (heap_four (HBK.out w2 HK2.out) (.int .i64 0) (.string ⟨#[]⟩) (.int .i64 0) (.slice none 0 0))
    refine bodyPost_ret (results_cellt (t := 2) (u := 3) (T := 45) (p := ⟨w.heap.size, 0, none⟩) rfl rfl (loadVar24 _ _ _ _ _ _ h0 h1 h2 h3)) rfl ?_
    rw [HR.out]
    exact ⟨keeps_set4 ((HK1.out.mono fun _ _ _ => trivial).trans (HK2.out)) (.inl (Nat.le_refl _)) _ _ _ _, by omega, _, _, _, _, _, _, rfl⟩
  | ok n r =>
    rw [ho] at hnum
    obtain ⟨hn0, hn1, hrl⟩ := devP_range ho
    by_cases hneg : n < 0
    · have HR : Hid (Rp.bulkD bs = .ok (.mk 5 [] 0 []) r) := Lib.hid (by unfold Rp.bulkD; rw [ho]; exact if_pos hneg)
      clear ho
      go_enter Tryz.func48, Tryz.ntmps48
      go_wp2_with (rw [HW1.out]; go_at_call 47; refine hnum.mono ?_; rintro e w2 ⟨hk2, rfl, hr2⟩; obtain ⟨b0, b1, b2, b3, f0, f1, f2, f3⟩ := cells_four' (HBK.out w2 hk2); have HK2 := Lib.hid hk2; have HR2 := Lib.hid hr2; clear hk2 hr2)
      obtain ⟨h0, h1, h2, h3⟩ := cells_four (heap_four (HBK.out w2 HK2.out) (.int .i64 5) (.string ⟨#[]⟩) (.int .i64 0) (.slice none 0 0))
      refine bodyPost_ret (results_cellt (t := 2) (u := 3) (T := 45) (p := ⟨w.heap.size, 0, none⟩) rfl rfl (loadVar24 _ _ _ _ _ _ h0 h1 h2 h3)) rfl ?_
      rw [HR.out]
      refine ⟨keeps_set4 ((HK1.out.mono fun _ _ _ => trivial).trans (HK2.out)) (.inl (Nat.le_refl _)) _ _ _ _, ⟨_, rfl, rep_plain (by unfold Fit; simp)⟩, ?_⟩
      exact HR2.out.keeps (T := fun k => k ≠ w.heap.size) (keeps_set4 (Keeps.refl _ w2) (.inr fun h => h rfl) _ _ _ _) (fun k hk => by have := HSlt.out k hk; omega) (by have := HPb.out; omega)
    · obtain ⟨m, rfl⟩ : ∃ m : Nat, n = m := ⟨n.toNat, by omega⟩
      have HR : Hid (Rp.bulkD bs = (Rp.textP m r).map fun s => .mk 4 s 0 []) := Lib.hid (by unfold Rp.bulkD; rw [ho]; exact if_neg (t := Rp.Out.ok (Rp.R.mk 5 [] 0 []) r) hneg)
      have HTX : Hid (∀ w2, Keeps (fun k => k ≠ Pb) w1 w2 → Rst S Pb w2 r → Calls Tryz.prog 70 #[.pointer (some ⟨Pb, 0, none⟩), .int .i64 m] w2 (TOut S Pb w2 (Rp.textP m r))) := Lib.hid fun w2 _ hr => text_any S Pb r m w2 hr hS
      have hm : ¬ (m : Int) < 0 := hneg
      cases ht : Rp.textP m r with
      | err c =>
        have hc := textP_err ht
        rw [ht] at HTX HR
        clear ho ht
        have hc' : ¬ c = 0 := by omega
        go_enter Tryz.func48, Tryz.ntmps48
        go_wp2_with (first
          | (rw [HW1.out]; go_at_call 47; refine hnum.mono ?_; rintro e w2 ⟨hk2, rfl, hr2⟩; have HK2 := Lib.hid hk2; have HR2 := Lib.hid hr2; clear hk2 hr2)
          | (go_at_call 70; refine (HTX.out w2 HK2.out HR2.out).mono ?_; rintro e w3 ⟨hk3, rfl⟩; have HK3 := Lib.hid (HK2.out.trans hk3); obtain ⟨b0, b1, b2, b3, f0, f1, f2, f3⟩ := cells_four' (HBK.out w3 HK3.out); clear hk3))
        obtain ⟨h0, h1, h2, h3⟩ := cells_four (heap_four (HBK.out w3 HK3.out) (.int .i64 4) (.string ⟨#[]⟩) (.int .i64 0) (.slice none 0 0))
        refine bodyPost_ret (results_cellt (t := 2) (u := 3) (T := 45) (p := ⟨w.heap.size, 0, none⟩) rfl rfl (loadVar24 _ _ _ _ _ _ h0 h1 h2 h3)) rfl ?_
        rw [HR.out]
        exact ⟨keeps_set4 ((HK1.out.mono fun _ _ _ => trivial).trans (HK3.out)) (.inl (Nat.le_refl _)) _ _ _ _, by omega, _, _, _, _, _, _, rfl⟩
      | ok s t =>
        have hsl : s.length ≤ 1048576 := by
          unfold Rp.textP at ht
          split at ht
          · cases ht
          · rw [Rp.endP_cases] at ht
            split at ht
            · injection ht with ht _
              rw [← ht, List.length_take]
              omega
            · split at ht <;> cases ht
        rw [ht] at HTX HR
        clear ho ht
        go_enter Tryz.func48, Tryz.ntmps48
        go_wp2_with (first
          | (rw [HW1.out]; go_at_call 47; refine hnum.mono ?_; rintro e w2 ⟨hk2, rfl, hr2⟩; have HK2 := Lib.hid hk2; have HR2 := Lib.hid hr2; clear hk2 hr2)
          | (go_at_call 70; refine (HTX.out w2 HK2.out HR2.out).mono ?_; rintro e w3 ⟨hk3, rfl, hr3⟩; have HK3 := Lib.hid (HK2.out.trans hk3); have HR3 := Lib.hid hr3; obtain ⟨b0, b1, b2, b3, f0, f1, f2, f3⟩ := cells_four' (HBK.out w3 HK3.out); clear hk3 hr3))
        obtain ⟨h0, h1, h2, h3⟩ := cells_four (heap_four (HBK.out w3 HK3.out) (.int .i64 4) (.string ⟨s.toArray⟩) (.int .i64 0) (.slice none 0 0))
        refine bodyPost_ret (results_cellt (t := 2) (u := 3) (T := 45) (p := ⟨w.heap.size, 0, none⟩) rfl rfl (loadVar24 _ _ _ _ _ _ h0 h1 h2 h3)) rfl ?_
        rw [HR.out]
        refine ⟨keeps_set4 ((HK1.out.mono fun _ _ _ => trivial).trans (HK3.out)) (.inl (Nat.le_refl _)) _ _ _ _, ⟨_, rfl, rep_plain (by unfold Fit; omega)⟩, ?_⟩
        exact HR3.out.keeps (T := fun k => k ≠ w.heap.size) (keeps_set4 (Keeps.refl _ w3) (.inr fun h => h rfl) _ _ _ _) (fun k hk => by have := HSlt.out k hk; omega) (by have := HPb.out; omega)
end Go.Proofs.YtbkhnnjjpelfcaaGreatDoor
