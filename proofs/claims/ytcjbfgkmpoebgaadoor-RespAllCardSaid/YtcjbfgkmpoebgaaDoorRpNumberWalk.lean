/- The walks of the reader's number, case by case. -/
import Derived.Test.YtcjbfgkmpoebgaaDoorRpNumber
namespace Go.Proofs.YtcjbfgkmpoebgaaDoor
open Go.RowKit Go.Shelf
attribute [local go_sem] Oper.semAt_some

def moreE (q : Bool) : Int := if q then 6 else 5
def moreP (q : Bool) : Rp.Out Int := .err (moreE q)

set_option maxRecDepth 100000 in
set_option maxHeartbeats 2000000 in
theorem num_nil (S : Nat → Prop) (Pb : Nat) (bs : List UInt8) (lo hi : Int) (w : World) (a : Option Addr) (cap nl dl : Nat) (q : Bool) (hq : ((0 : Int) == (bs.length : Int)) = q)
    (_hlo : -9223372036854775808 ≤ lo) (_hlo0 : lo ≤ 9223372036854775807) (_hhi0 : -9223372036854775808 ≤ hi) (_hhi : hi ≤ 9223372036854775807)
    (HNEAR : Hid (Calls Tryd.prog 48 #[.pointer (some ⟨Pb, 0, none⟩), .int .i64 20] w fun e w' => e = .returned (.slice a nl cap) ∧ Below w.heap.size w w'))
    (HTRIM : Hid (∀ w1, Below w.heap.size w w1 → Calls Tryd.prog 51 #[.slice a nl cap, .string ⟨#[45, 48, 49, 50, 51, 52, 53, 54, 55, 56, 57]⟩] w1 fun e w' => (∃ b c, e = .returned (.slice b dl c)) ∧ Below w1.heap.size w1 w'))
    (HCONV : Hid (∀ w2, Below w.heap.size w w2 → (convert 28 9 (.slice a 0 cap)).run Tryd.prog w2 = .ok (.string ⟨#[]⟩) w2))
    (HCC : Hid (∀ w2, Below w.heap.size w w2 → w2.cell? ⟨Pb, 0, none⟩ = some (.slice a bs.length cap)))
    (hw1 : IntKind.i64.wrap ((nl : Int) - (dl : Int)) = (0 : Int)) (hs1 : (0 : Int) ≤ (cap : Int)) (_hl : bs.length ≤ cap) (_hcap : cap ≤ 9223372036854775807) (_hnb : nl ≤ bs.length ∧ nl ≤ 20)
    (HAT : Hid (∀ w2, Below w.heap.size w w2 → Calls Tryd.prog 52 #[.string ⟨#[]⟩] w2 fun e w3 => ∃ te pe, e = .returned (.tuple #[.int .i64 0, .iface te pe]) ∧ Below w2.heap.size w2 w3))
    : Calls Tryd.prog 39 #[.pointer (some ⟨Pb, 0, none⟩), .int .i64 lo, .int .i64 hi] w (NOut S Pb w (moreP q)) := by
  go_enter Tryd.func39, Tryd.ntmps39
  go_wp2_with (first
    | (go_at_call 48; refine HNEAR.out.mono ?_; rintro e w1 ⟨rfl, hb1⟩; have HB1 := Lib.hid hb1; clear hb1)
    | (go_at_call 51; refine (HTRIM.out w1 HB1.out).mono ?_; rintro e w2 ⟨⟨b2, c2, rfl⟩, hb2⟩; have HB2 := Lib.hid (HB1.out.trans (hb2.mono HB1.out.size)); have hconv := HCONV.out w2 HB2.out; have hcc := HCC.out w2 HB2.out; clear hb2)
    | (go_at_call 52; refine (HAT.out w2 HB2.out).mono ?_; rintro e w3 ⟨te, pe, rfl, hb3⟩; have HB3 := Lib.hid (HB2.out.trans (hb3.mono HB2.out.size)); clear hb3))
  · rename_i hh
    go_ret2
    exact ⟨Keeps.of_below HB2.out fun k h _ => h, _, by rw [hh]; rfl⟩
  · rename_i hh
    go_ret2
    exact ⟨Keeps.of_below HB3.out fun k h _ => h, _, by first | rfl | (rw [‹q = false›]; rfl)⟩

set_option maxRecDepth 100000 in
set_option maxHeartbeats 2000000 in
theorem num_sign (S : Nat → Prop) (Pb : Nat) (bs : List UInt8) (lo hi : Int) (w : World) (a : Option Addr) (cap nl dl : Nat) (q : Bool) (hq : ((1 : Int) == (bs.length : Int)) = q) (hlo9 : lo < 0)
    (_hlo : -9223372036854775808 ≤ lo) (_hlo0 : lo ≤ 9223372036854775807) (_hhi0 : -9223372036854775808 ≤ hi) (_hhi : hi ≤ 9223372036854775807)
    (HNEAR : Hid (Calls Tryd.prog 48 #[.pointer (some ⟨Pb, 0, none⟩), .int .i64 20] w fun e w' => e = .returned (.slice a nl cap) ∧ Below w.heap.size w w'))
    (HTRIM : Hid (∀ w1, Below w.heap.size w w1 → Calls Tryd.prog 51 #[.slice a nl cap, .string ⟨#[45, 48, 49, 50, 51, 52, 53, 54, 55, 56, 57]⟩] w1 fun e w' => (∃ b c, e = .returned (.slice b dl c)) ∧ Below w1.heap.size w1 w'))
    (HCONV : Hid (∀ w2, Below w.heap.size w w2 → (convert 28 9 (.slice a 1 cap)).run Tryd.prog w2 = .ok (.string ⟨#[45]⟩) w2))
    (HCC : Hid (∀ w2, Below w.heap.size w w2 → w2.cell? ⟨Pb, 0, none⟩ = some (.slice a bs.length cap)))
    (hw1 : IntKind.i64.wrap ((nl : Int) - (dl : Int)) = (1 : Int)) (hs1 : (1 : Int) ≤ (cap : Int)) (_hl : bs.length ≤ cap) (hcap : cap ≤ 9223372036854775807) (_hnb : nl ≤ bs.length ∧ nl ≤ 20)
    (HAT : Hid (∀ w2, Below w.heap.size w w2 → Calls Tryd.prog 52 #[.string ⟨#[45]⟩] w2 fun e w3 => ∃ te pe, e = .returned (.tuple #[.int .i64 0, .iface te pe]) ∧ Below w2.heap.size w2 w3))
    : Calls Tryd.prog 39 #[.pointer (some ⟨Pb, 0, none⟩), .int .i64 lo, .int .i64 hi] w (NOut S Pb w (moreP q)) := by
  go_enter Tryd.func39, Tryd.ntmps39
  go_wp2_with (first
    | (go_at_call 48; refine HNEAR.out.mono ?_; rintro e w1 ⟨rfl, hb1⟩; have HB1 := Lib.hid hb1; clear hb1)
    | (go_at_call 51; refine (HTRIM.out w1 HB1.out).mono ?_; rintro e w2 ⟨⟨b2, c2, rfl⟩, hb2⟩; have HB2 := Lib.hid (HB1.out.trans (hb2.mono HB1.out.size)); have hconv := HCONV.out w2 HB2.out; have hcc := HCC.out w2 HB2.out; clear hb2)
    | (go_at_call 52; refine (HAT.out w2 HB2.out).mono ?_; rintro e w3 ⟨te, pe, rfl, hb3⟩; have HB3 := Lib.hid (HB2.out.trans (hb3.mono HB2.out.size)); clear hb3))
  · rename_i hh
    go_ret2
    exact ⟨Keeps.of_below HB2.out fun k h _ => h, _, by rw [hh]; rfl⟩
  · rename_i hh
    go_ret2
    exact ⟨Keeps.of_below HB3.out fun k h _ => h, _, by first | rfl | (rw [‹q = false›]; rfl)⟩

set_option maxRecDepth 100000 in
set_option maxHeartbeats 2000000 in
theorem num_sign2 (S : Nat → Prop) (Pb : Nat) (bs : List UInt8) (lo hi : Int) (w : World) (a : Option Addr) (cap nl dl : Nat) (hlo9 : ¬ lo < 0)
    (hlo : -9223372036854775808 ≤ lo) (hlo0 : lo ≤ 9223372036854775807) (_hhi0 : -9223372036854775808 ≤ hi) (_hhi : hi ≤ 9223372036854775807)
    (HNEAR : Hid (Calls Tryd.prog 48 #[.pointer (some ⟨Pb, 0, none⟩), .int .i64 20] w fun e w' => e = .returned (.slice a nl cap) ∧ Below w.heap.size w w'))
    (HTRIM : Hid (∀ w1, Below w.heap.size w w1 → Calls Tryd.prog 51 #[.slice a nl cap, .string ⟨#[45, 48, 49, 50, 51, 52, 53, 54, 55, 56, 57]⟩] w1 fun e w' => (∃ b c, e = .returned (.slice b dl c)) ∧ Below w1.heap.size w1 w'))
    (HCONV : Hid (∀ w2, Below w.heap.size w w2 → (convert 28 9 (.slice a 1 cap)).run Tryd.prog w2 = .ok (.string ⟨#[45]⟩) w2))
    (HCC : Hid (∀ w2, Below w.heap.size w w2 → w2.cell? ⟨Pb, 0, none⟩ = some (.slice a bs.length cap)))
    (hw1 : IntKind.i64.wrap ((nl : Int) - (dl : Int)) = (1 : Int)) (hs1 : (1 : Int) ≤ (cap : Int)) (_hl : bs.length ≤ cap) (hcap : cap ≤ 9223372036854775807) (_hnb : nl ≤ bs.length ∧ nl ≤ 20)
    (HAT : Hid (∀ w2, Below w.heap.size w w2 → Calls Tryd.prog 52 #[.string ⟨#[45]⟩] w2 fun e w3 => ∃ te pe, e = .returned (.tuple #[.int .i64 0, .iface te pe]) ∧ Below w2.heap.size w2 w3))
    : Calls Tryd.prog 39 #[.pointer (some ⟨Pb, 0, none⟩), .int .i64 lo, .int .i64 hi] w (NOut S Pb w (.err 5)) := by
  go_enter Tryd.func39, Tryd.ntmps39
  go_wp2_with (first
    | (go_at_call 48; refine HNEAR.out.mono ?_; rintro e w1 ⟨rfl, hb1⟩; have HB1 := Lib.hid hb1; clear hb1)
    | (go_at_call 51; refine (HTRIM.out w1 HB1.out).mono ?_; rintro e w2 ⟨⟨b2, c2, rfl⟩, hb2⟩; have HB2 := Lib.hid (HB1.out.trans (hb2.mono HB1.out.size)); have hconv := HCONV.out w2 HB2.out; have hcc := HCC.out w2 HB2.out; clear hb2)
    | (go_at_call 52; refine (HAT.out w2 HB2.out).mono ?_; rintro e w3 ⟨te, pe, rfl, hb3⟩; have HB3 := Lib.hid (HB2.out.trans (hb3.mono HB2.out.size)); clear hb3))
  go_ret2
  exact ⟨Keeps.of_below HB3.out fun k h _ => h, _, rfl⟩

set_option maxRecDepth 100000 in
set_option maxHeartbeats 2000000 in
theorem num_bad (S : Nat → Prop) (Pb : Nat) (bs : List UInt8) (lo hi : Int) (w : World) (a : Option Addr) (cap nl dl : Nat) (L : List UInt8) (sl : Nat) (_hsz : (⟨L.toArray⟩ : ByteArray).size = sl) (q0 : ¬ L = []) (q1 : ¬ L = [45]) (sat : Int) (_hsat : -9223372036854775808 ≤ sat ∧ sat ≤ 9223372036854775807)
    (_hlo : -9223372036854775808 ≤ lo) (_hlo0 : lo ≤ 9223372036854775807) (_hhi0 : -9223372036854775808 ≤ hi) (_hhi : hi ≤ 9223372036854775807)
    (HNEAR : Hid (Calls Tryd.prog 48 #[.pointer (some ⟨Pb, 0, none⟩), .int .i64 20] w fun e w' => e = .returned (.slice a nl cap) ∧ Below w.heap.size w w'))
    (HTRIM : Hid (∀ w1, Below w.heap.size w w1 → Calls Tryd.prog 51 #[.slice a nl cap, .string ⟨#[45, 48, 49, 50, 51, 52, 53, 54, 55, 56, 57]⟩] w1 fun e w' => (∃ b c, e = .returned (.slice b dl c)) ∧ Below w1.heap.size w1 w'))
    (HCONV : Hid (∀ w2, Below w.heap.size w w2 → (convert 28 9 (.slice a sl cap)).run Tryd.prog w2 = .ok (.string ⟨L.toArray⟩) w2))
    (HCC : Hid (∀ w2, Below w.heap.size w w2 → w2.cell? ⟨Pb, 0, none⟩ = some (.slice a bs.length cap)))
    (hw1 : IntKind.i64.wrap ((nl : Int) - (dl : Int)) = (sl : Int)) (hs1 : (sl : Int) ≤ (cap : Int)) (_hl : bs.length ≤ cap) (_hcap : cap ≤ 9223372036854775807) (_hnb : nl ≤ bs.length ∧ nl ≤ 20)
    (HAT : Hid (∀ w2, Below w.heap.size w w2 → Calls Tryd.prog 52 #[.string ⟨L.toArray⟩] w2 fun e w3 => ∃ te pe, e = .returned (.tuple #[.int .i64 sat, .iface te pe]) ∧ Below w2.heap.size w2 w3))
    : Calls Tryd.prog 39 #[.pointer (some ⟨Pb, 0, none⟩), .int .i64 lo, .int .i64 hi] w (NOut S Pb w (.err 5)) := by
  go_enter Tryd.func39, Tryd.ntmps39
  go_wp2_with (first
    | (go_at_call 48; refine HNEAR.out.mono ?_; rintro e w1 ⟨rfl, hb1⟩; have HB1 := Lib.hid hb1; clear hb1)
    | (go_at_call 51; refine (HTRIM.out w1 HB1.out).mono ?_; rintro e w2 ⟨⟨b2, c2, rfl⟩, hb2⟩; have HB2 := Lib.hid (HB1.out.trans (hb2.mono HB1.out.size)); have hconv := HCONV.out w2 HB2.out; have hcc := HCC.out w2 HB2.out; clear hb2)
    | (go_at_call 52; refine (HAT.out w2 HB2.out).mono ?_; rintro e w3 ⟨te, pe, rfl, hb3⟩; have HB3 := Lib.hid (HB2.out.trans (hb3.mono HB2.out.size)); clear hb3))
  go_ret2
  exact ⟨Keeps.of_below HB3.out fun k h _ => h, _, rfl⟩

set_option maxRecDepth 100000 in
set_option maxHeartbeats 2000000 in
theorem num_other (S : Nat → Prop) (Pb : Nat) (bs : List UInt8) (lo hi : Int) (w : World) (a : Option Addr) (cap nl dl : Nat) (L : List UInt8) (sl : Nat) (_hsz : (⟨L.toArray⟩ : ByteArray).size = sl) (q0 : ¬ L = []) (q1 : ¬ L = [45]) (v : Int) (_hv : -9223372036854775808 ≤ v ∧ v ≤ 9223372036854775807)  (q3 : ¬ Dig.dec v = L)
    (_hlo : -9223372036854775808 ≤ lo) (_hlo0 : lo ≤ 9223372036854775807) (_hhi0 : -9223372036854775808 ≤ hi) (_hhi : hi ≤ 9223372036854775807)
    (HNEAR : Hid (Calls Tryd.prog 48 #[.pointer (some ⟨Pb, 0, none⟩), .int .i64 20] w fun e w' => e = .returned (.slice a nl cap) ∧ Below w.heap.size w w'))
    (HTRIM : Hid (∀ w1, Below w.heap.size w w1 → Calls Tryd.prog 51 #[.slice a nl cap, .string ⟨#[45, 48, 49, 50, 51, 52, 53, 54, 55, 56, 57]⟩] w1 fun e w' => (∃ b c, e = .returned (.slice b dl c)) ∧ Below w1.heap.size w1 w'))
    (HCONV : Hid (∀ w2, Below w.heap.size w w2 → (convert 28 9 (.slice a sl cap)).run Tryd.prog w2 = .ok (.string ⟨L.toArray⟩) w2))
    (HCC : Hid (∀ w2, Below w.heap.size w w2 → w2.cell? ⟨Pb, 0, none⟩ = some (.slice a bs.length cap)))
    (hw1 : IntKind.i64.wrap ((nl : Int) - (dl : Int)) = (sl : Int)) (hs1 : (sl : Int) ≤ (cap : Int)) (_hl : bs.length ≤ cap) (_hcap : cap ≤ 9223372036854775807) (_hnb : nl ≤ bs.length ∧ nl ≤ 20)
    (HAT : Hid (∀ w2, Below w.heap.size w w2 → Calls Tryd.prog 52 #[.string ⟨L.toArray⟩] w2 fun e w3 => e = .returned (.tuple #[.int .i64 v, .nilIface]) ∧ Below w2.heap.size w2 w3))
    (HIT : Hid (∀ w2, Below w.heap.size w w2 → Calls Tryd.prog 53 #[.int .i64 v] w2 fun e w3 => e = .returned (.string ⟨(Dig.dec v).toArray⟩) ∧ Below w2.heap.size w2 w3))
    : Calls Tryd.prog 39 #[.pointer (some ⟨Pb, 0, none⟩), .int .i64 lo, .int .i64 hi] w (NOut S Pb w (.err 5)) := by
  go_enter Tryd.func39, Tryd.ntmps39
  go_wp2_with (first
    | (go_at_call 48; refine HNEAR.out.mono ?_; rintro e w1 ⟨rfl, hb1⟩; have HB1 := Lib.hid hb1; clear hb1)
    | (go_at_call 51; refine (HTRIM.out w1 HB1.out).mono ?_; rintro e w2 ⟨⟨b2, c2, rfl⟩, hb2⟩; have HB2 := Lib.hid (HB1.out.trans (hb2.mono HB1.out.size)); have hconv := HCONV.out w2 HB2.out; have hcc := HCC.out w2 HB2.out; clear hb2)
    | (go_at_call 52; refine (HAT.out w2 HB2.out).mono ?_; rintro e w3 ⟨rfl, hb3⟩; have HB3 := Lib.hid (HB2.out.trans (hb3.mono HB2.out.size)); clear hb3)
    | (go_at_call 53; refine (HIT.out w3 HB3.out).mono ?_; rintro e w4 ⟨rfl, hb4⟩; have HB4 := Lib.hid (HB3.out.trans (hb4.mono HB3.out.size)); clear hb4))
  go_ret2
  exact ⟨Keeps.of_below HB4.out fun k h _ => h, _, rfl⟩

set_option maxRecDepth 100000 in
set_option maxHeartbeats 2000000 in
theorem num_low (S : Nat → Prop) (Pb : Nat) (bs : List UInt8) (lo hi : Int) (w : World) (a : Option Addr) (cap nl dl : Nat) (L : List UInt8) (sl : Nat) (_hsz : (⟨L.toArray⟩ : ByteArray).size = sl) (q0 : ¬ L = []) (q1 : ¬ L = [45]) (v : Int) (_hv : -9223372036854775808 ≤ v ∧ v ≤ 9223372036854775807)  (q3 : Dig.dec v = L) (h5 : v < lo)
    (_hlo : -9223372036854775808 ≤ lo) (_hlo0 : lo ≤ 9223372036854775807) (_hhi0 : -9223372036854775808 ≤ hi) (_hhi : hi ≤ 9223372036854775807)
    (HNEAR : Hid (Calls Tryd.prog 48 #[.pointer (some ⟨Pb, 0, none⟩), .int .i64 20] w fun e w' => e = .returned (.slice a nl cap) ∧ Below w.heap.size w w'))
    (HTRIM : Hid (∀ w1, Below w.heap.size w w1 → Calls Tryd.prog 51 #[.slice a nl cap, .string ⟨#[45, 48, 49, 50, 51, 52, 53, 54, 55, 56, 57]⟩] w1 fun e w' => (∃ b c, e = .returned (.slice b dl c)) ∧ Below w1.heap.size w1 w'))
    (HCONV : Hid (∀ w2, Below w.heap.size w w2 → (convert 28 9 (.slice a sl cap)).run Tryd.prog w2 = .ok (.string ⟨L.toArray⟩) w2))
    (HCC : Hid (∀ w2, Below w.heap.size w w2 → w2.cell? ⟨Pb, 0, none⟩ = some (.slice a bs.length cap)))
    (hw1 : IntKind.i64.wrap ((nl : Int) - (dl : Int)) = (sl : Int)) (hs1 : (sl : Int) ≤ (cap : Int)) (_hl : bs.length ≤ cap) (_hcap : cap ≤ 9223372036854775807) (_hnb : nl ≤ bs.length ∧ nl ≤ 20)
    (HAT : Hid (∀ w2, Below w.heap.size w w2 → Calls Tryd.prog 52 #[.string ⟨L.toArray⟩] w2 fun e w3 => e = .returned (.tuple #[.int .i64 v, .nilIface]) ∧ Below w2.heap.size w2 w3))
    (HIT : Hid (∀ w2, Below w.heap.size w w2 → Calls Tryd.prog 53 #[.int .i64 v] w2 fun e w3 => e = .returned (.string ⟨(Dig.dec v).toArray⟩) ∧ Below w2.heap.size w2 w3))
    : Calls Tryd.prog 39 #[.pointer (some ⟨Pb, 0, none⟩), .int .i64 lo, .int .i64 hi] w (NOut S Pb w (.err 5)) := by
  go_enter Tryd.func39, Tryd.ntmps39
  go_wp2_with (first
    | (go_at_call 48; refine HNEAR.out.mono ?_; rintro e w1 ⟨rfl, hb1⟩; have HB1 := Lib.hid hb1; clear hb1)
    | (go_at_call 51; refine (HTRIM.out w1 HB1.out).mono ?_; rintro e w2 ⟨⟨b2, c2, rfl⟩, hb2⟩; have HB2 := Lib.hid (HB1.out.trans (hb2.mono HB1.out.size)); have hconv := HCONV.out w2 HB2.out; have hcc := HCC.out w2 HB2.out; clear hb2)
    | (go_at_call 52; refine (HAT.out w2 HB2.out).mono ?_; rintro e w3 ⟨rfl, hb3⟩; have HB3 := Lib.hid (HB2.out.trans (hb3.mono HB2.out.size)); clear hb3)
    | (go_at_call 53; refine (HIT.out w3 HB3.out).mono ?_; rintro e w4 ⟨rfl, hb4⟩; have HB4 := Lib.hid (HB3.out.trans (hb4.mono HB3.out.size)); clear hb4))
  go_ret2
  exact ⟨Keeps.of_below HB4.out fun k h _ => h, _, rfl⟩

set_option maxRecDepth 100000 in
set_option maxHeartbeats 2000000 in
theorem num_high (S : Nat → Prop) (Pb : Nat) (bs : List UInt8) (lo hi : Int) (w : World) (a : Option Addr) (cap nl dl : Nat) (L : List UInt8) (sl : Nat) (_hsz : (⟨L.toArray⟩ : ByteArray).size = sl) (q0 : ¬ L = []) (q1 : ¬ L = [45]) (v : Int) (_hv : -9223372036854775808 ≤ v ∧ v ≤ 9223372036854775807)  (q3 : Dig.dec v = L) (h5 : lo ≤ v) (h6 : hi < v)
    (_hlo : -9223372036854775808 ≤ lo) (_hlo0 : lo ≤ 9223372036854775807) (_hhi0 : -9223372036854775808 ≤ hi) (_hhi : hi ≤ 9223372036854775807)
    (HNEAR : Hid (Calls Tryd.prog 48 #[.pointer (some ⟨Pb, 0, none⟩), .int .i64 20] w fun e w' => e = .returned (.slice a nl cap) ∧ Below w.heap.size w w'))
    (HTRIM : Hid (∀ w1, Below w.heap.size w w1 → Calls Tryd.prog 51 #[.slice a nl cap, .string ⟨#[45, 48, 49, 50, 51, 52, 53, 54, 55, 56, 57]⟩] w1 fun e w' => (∃ b c, e = .returned (.slice b dl c)) ∧ Below w1.heap.size w1 w'))
    (HCONV : Hid (∀ w2, Below w.heap.size w w2 → (convert 28 9 (.slice a sl cap)).run Tryd.prog w2 = .ok (.string ⟨L.toArray⟩) w2))
    (HCC : Hid (∀ w2, Below w.heap.size w w2 → w2.cell? ⟨Pb, 0, none⟩ = some (.slice a bs.length cap)))
    (hw1 : IntKind.i64.wrap ((nl : Int) - (dl : Int)) = (sl : Int)) (hs1 : (sl : Int) ≤ (cap : Int)) (_hl : bs.length ≤ cap) (_hcap : cap ≤ 9223372036854775807) (_hnb : nl ≤ bs.length ∧ nl ≤ 20)
    (HAT : Hid (∀ w2, Below w.heap.size w w2 → Calls Tryd.prog 52 #[.string ⟨L.toArray⟩] w2 fun e w3 => e = .returned (.tuple #[.int .i64 v, .nilIface]) ∧ Below w2.heap.size w2 w3))
    (HIT : Hid (∀ w2, Below w.heap.size w w2 → Calls Tryd.prog 53 #[.int .i64 v] w2 fun e w3 => e = .returned (.string ⟨(Dig.dec v).toArray⟩) ∧ Below w2.heap.size w2 w3))
    : Calls Tryd.prog 39 #[.pointer (some ⟨Pb, 0, none⟩), .int .i64 lo, .int .i64 hi] w (NOut S Pb w (.err 5)) := by
  go_enter Tryd.func39, Tryd.ntmps39
  go_wp2_with (first
    | (go_at_call 48; refine HNEAR.out.mono ?_; rintro e w1 ⟨rfl, hb1⟩; have HB1 := Lib.hid hb1; clear hb1)
    | (go_at_call 51; refine (HTRIM.out w1 HB1.out).mono ?_; rintro e w2 ⟨⟨b2, c2, rfl⟩, hb2⟩; have HB2 := Lib.hid (HB1.out.trans (hb2.mono HB1.out.size)); have hconv := HCONV.out w2 HB2.out; have hcc := HCC.out w2 HB2.out; clear hb2)
    | (go_at_call 52; refine (HAT.out w2 HB2.out).mono ?_; rintro e w3 ⟨rfl, hb3⟩; have HB3 := Lib.hid (HB2.out.trans (hb3.mono HB2.out.size)); clear hb3)
    | (go_at_call 53; refine (HIT.out w3 HB3.out).mono ?_; rintro e w4 ⟨rfl, hb4⟩; have HB4 := Lib.hid (HB3.out.trans (hb4.mono HB3.out.size)); clear hb4))
  go_ret2
  exact ⟨Keeps.of_below HB4.out fun k h _ => h, _, rfl⟩

set_option maxRecDepth 100000 in
set_option maxHeartbeats 2000000 in
theorem num_ok (S : Nat → Prop) (Pb : Nat) (bs : List UInt8) (lo hi : Int) (w : World) (a : Option Addr) (cap nl dl : Nat) (L : List UInt8) (sl : Nat) (hsz : (⟨L.toArray⟩ : ByteArray).size = sl) (q0 : ¬ L = []) (q1 : ¬ L = [45]) (v : Int) (_hv : -9223372036854775808 ≤ v ∧ v ≤ 9223372036854775807)  (q3 : Dig.dec v = L) (h5 : lo ≤ v) (h6 : v ≤ hi)
    (_hlo : -9223372036854775808 ≤ lo) (_hlo0 : lo ≤ 9223372036854775807) (_hhi0 : -9223372036854775808 ≤ hi) (_hhi : hi ≤ 9223372036854775807)
    (HNEAR : Hid (Calls Tryd.prog 48 #[.pointer (some ⟨Pb, 0, none⟩), .int .i64 20] w fun e w' => e = .returned (.slice a nl cap) ∧ Below w.heap.size w w'))
    (HTRIM : Hid (∀ w1, Below w.heap.size w w1 → Calls Tryd.prog 51 #[.slice a nl cap, .string ⟨#[45, 48, 49, 50, 51, 52, 53, 54, 55, 56, 57]⟩] w1 fun e w' => (∃ b c, e = .returned (.slice b dl c)) ∧ Below w1.heap.size w1 w'))
    (HCONV : Hid (∀ w2, Below w.heap.size w w2 → (convert 28 9 (.slice a sl cap)).run Tryd.prog w2 = .ok (.string ⟨L.toArray⟩) w2))
    (HCC : Hid (∀ w2, Below w.heap.size w w2 → w2.cell? ⟨Pb, 0, none⟩ = some (.slice a bs.length cap)))
    (hw1 : IntKind.i64.wrap ((nl : Int) - (dl : Int)) = (sl : Int)) (hs1 : (sl : Int) ≤ (cap : Int)) (_hl : bs.length ≤ cap) (_hcap : cap ≤ 9223372036854775807) (_hnb : nl ≤ bs.length ∧ nl ≤ 20)
    (HAT : Hid (∀ w2, Below w.heap.size w w2 → Calls Tryd.prog 52 #[.string ⟨L.toArray⟩] w2 fun e w3 => e = .returned (.tuple #[.int .i64 v, .nilIface]) ∧ Below w2.heap.size w2 w3))
    (HIT : Hid (∀ w2, Below w.heap.size w w2 → Calls Tryd.prog 53 #[.int .i64 v] w2 fun e w3 => e = .returned (.string ⟨(Dig.dec v).toArray⟩) ∧ Below w2.heap.size w2 w3))
    (HTXT : Hid (∀ w4, Below w.heap.size w w4 → Calls Tryd.prog 50 #[.pointer (some ⟨Pb, 0, none⟩), .int .i64 sl] w4 (TOut S Pb w4 (Rp.textP sl bs))))
    : Calls Tryd.prog 39 #[.pointer (some ⟨Pb, 0, none⟩), .int .i64 lo, .int .i64 hi] w (NOut S Pb w ((Rp.textP sl bs).map fun _ => v)) := by
  go_enter Tryd.func39, Tryd.ntmps39
  go_wp2_with (first
    | (go_at_call 48; refine HNEAR.out.mono ?_; rintro e w1 ⟨rfl, hb1⟩; have HB1 := Lib.hid hb1; clear hb1)
    | (go_at_call 51; refine (HTRIM.out w1 HB1.out).mono ?_; rintro e w2 ⟨⟨b2, c2, rfl⟩, hb2⟩; have HB2 := Lib.hid (HB1.out.trans (hb2.mono HB1.out.size)); have hconv := HCONV.out w2 HB2.out; have hcc := HCC.out w2 HB2.out; clear hb2)
    | (go_at_call 52; refine (HAT.out w2 HB2.out).mono ?_; rintro e w3 ⟨rfl, hb3⟩; have HB3 := Lib.hid (HB2.out.trans (hb3.mono HB2.out.size)); clear hb3)
    | (go_at_call 53; refine (HIT.out w3 HB3.out).mono ?_; rintro e w4 ⟨rfl, hb4⟩; have HB4 := Lib.hid (HB3.out.trans (hb4.mono HB3.out.size)); clear hb4)
    | (go_at_call 50; refine (HTXT.out w4 HB4.out).mono ?_; rintro e w5 ht; obtain ⟨sv, c5, rfl⟩ := ht.ret; have HT := Lib.hid ht; clear ht))
  go_ret2
  exact ht_nout HB4.out HT.out

end Go.Proofs.YtcjbfgkmpoebgaaDoor
