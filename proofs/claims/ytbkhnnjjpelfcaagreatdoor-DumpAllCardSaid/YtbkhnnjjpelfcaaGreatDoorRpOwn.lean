/- Bytes in memory, and the reader's row of what is not read yet. The contracts of the reader's near and text. The contracts of resp.withNumber and resp.withOwn. -/
import Derived.Test.YtbkhnnjjpelfcaaGreatDoorRpEnv
import Derived.Lib.SlBytesConst
import Derived.Laws.BytesArg
import Derived.Shelf.Bytes.SlTrim
import Derived.Deep.Cut
import Derived.Deep.QuietTactic
import Derived.Deep.RegionWith
import Derived.StillTailTactics
import Derived.Deep.RegionHeld3
import Derived.Deep.AppendLies
import Derived.Lib.Strings
import Derived.Lib.Slices
import Derived.Lib.Walk
import Derived.Lib.Builder
import Derived.Lib.AppendStr
import Derived.Maps.AppendAt
namespace Go.Proofs.YtbkhnnjjpelfcaaGreatDoor
open Go.RowKit Go.Shelf

/-- a slice holds these bytes, in a block of S. -/
def Bt (S : Nat → Prop) (w : World) (a : Option Addr) (cap : Nat) (bs : List UInt8) : Prop :=
  bs.length ≤ cap ∧ cap ≤ 9223372036854775807 ∧ (bs = [] ∨ ∃ b off, a = some ⟨b, off, none⟩ ∧ S b ∧ b < w.heap.size ∧ ∀ k, k < bs.length → w.cell? ⟨b, off + k, none⟩ = some (.int .u8 ((bs.getD k 0).toNat : Int)))

theorem Bt.keeps {S S' : Nat → Prop} {w w' : World} {a : Option Addr} {cap : Nat} {bs : List UInt8} (h : Bt S w a cap bs) (hk : Keeps S w w') (hS : ∀ k, S k → S' k) : Bt S' w' a cap bs := by
  refine ⟨h.1, h.2.1, h.2.2.imp id ?_⟩
  rintro ⟨b, off, ha, hb, hlt, hc⟩
  exact ⟨b, off, ha, hS b hb, Nat.lt_of_lt_of_le hlt hk.size, fun k hk' => (hk.cell (p := ⟨b, off + k, none⟩) hlt hb).trans (hc k hk')⟩

theorem Bt.later {S : Nat → Prop} {w w' : World} {a : Option Addr} {cap : Nat} {bs : List UInt8} (h : Bt S w a cap bs) (hb : Below w.heap.size w w') : Bt S w' a cap bs :=
  h.keeps (Keeps.of_below hb fun _ h _ => h) fun _ h => h

theorem Bt.to {S : Nat → Prop} {w : World} {a : Option Addr} {cap : Nat} {bs : List UInt8} (h : Bt S w a cap bs) (n : Nat) : Bt S w a cap (bs.take n) := by
  obtain ⟨h1, h2, h3⟩ := h
  refine ⟨by rw [List.length_take]; omega, h2, ?_⟩
  rcases h3 with rfl | ⟨b, off, ha, hb, hlt, hc⟩
  · exact .inl (by simp)
  · refine .inr ⟨b, off, ha, hb, hlt, fun k hk => ?_⟩
    rw [List.length_take] at hk
    rw [hc k (by omega)]
    simp [List.getD, show k < n by omega]

theorem Bt.from {S : Nat → Prop} {w : World} {a : Option Addr} {cap : Nat} {bs : List UInt8} (h : Bt S w a cap bs) {n : Nat} (hn : n ≤ bs.length) : Bt S w (if cap = n then a else a.map fun x => x.add n) (cap - n) (bs.drop n) := by
  obtain ⟨h1, h2, h3⟩ := h
  refine ⟨by rw [List.length_drop]; omega, by omega, ?_⟩
  by_cases hd : bs.drop n = []
  · exact .inl hd
  right
  have hlt : n < bs.length := by
    rcases Nat.lt_or_ge n bs.length with h | h
    · exact h
    · exact absurd (List.drop_eq_nil_of_le h) hd
  rcases h3 with rfl | ⟨b, off, rfl, hb, hlt', hc⟩
  · simp at hlt
  · rw [if_neg (by omega)]
    refine ⟨b, off + n, by simp [Addr.add], hb, hlt', fun k hk => ?_⟩
    rw [List.length_drop] at hk
    rw [Nat.add_assoc, hc (n + k) (by omega)]
    simp [List.getD]

/-- the numbers of bytes. -/
def nums (bs : List UInt8) : List Int := bs.map fun b => (b.toNat : Int)
theorem nums_len (bs : List UInt8) : (nums bs).length = bs.length := by simp [nums]
theorem nums_bytes (bs : List UInt8) : Lib.bytesOf (nums bs) = bs := by
  have : ((fun n : Int => UInt8.ofNat n.toNat) ∘ fun b : UInt8 => (b.toNat : Int)) = id := by funext b; simp
  unfold nums Lib.bytesOf
  rw [List.map_map, this, List.map_id]
theorem nums_range (bs : List UInt8) : ∀ x ∈ nums bs, 0 ≤ x ∧ x < 256 := by
  intro x hx
  obtain ⟨b, _, rfl⟩ := List.mem_map.1 hx
  have := b.toNat_lt
  omega
theorem nums_getD (bs : List UInt8) {k : Nat} (hk : k < bs.length) : (nums bs).getD k 0 = ((bs.getD k 0).toNat : Int) := by simp [nums, List.getD, hk]

theorem Bt.bytesIn {S : Nat → Prop} {w : World} {a : Option Addr} {cap : Nat} {bs : List UInt8} (h : Bt S w a cap bs) : Lib.BytesIn w a bs.length (nums bs) := fun hn => by
  rcases h.2.2 with rfl | ⟨b, off, ha, _, _, hc⟩
  · simp at hn
  · exact ⟨b, off, ha, fun i hi => by rw [hc i hi, nums_getD bs hi]⟩

set_option maxRecDepth 10000 in
theorem Bt.conv {S : Nat → Prop} {w : World} {a : Option Addr} {cap : Nat} {bs : List UInt8} (h : Bt S w a cap bs) : (convert 36 9 (.slice a bs.length cap)).run Tryz.prog w = .ok (.string ⟨bs.toArray⟩) w := by
  rcases h.2.2 with rfl | ⟨b, off, rfl, _, _, hc⟩
  · rw [run_convert_bytes_string w _ _ _ a _ cap Tryz.underlying36 Tryz.underlying5 Tryz.underlying9]
    cases a <;> simp [Conv.bytesToString, loadCells, loadCellsFrom] <;> rfl
  · have := run_convert_bytes_arg (P := Tryz.prog) (w := w) 36 5 Tryz.underlying36 Tryz.underlying5 b off bs.length cap (nums bs) (nums_len bs) (fun i hi => by rw [hc i hi, nums_getD bs hi]) _ Tryz.underlying9
    rw [this]
    have e := Lib.strOfNums_toList (nums bs)
    rw [nums_bytes, Lib.toList_data] at e
    have : ∀ x y : ByteArray, x.data.toList = y.data.toList → x = y := fun x y h => by
      cases x; cases y
      simp at h
      rw [h]
    rw [this (strOfNums (nums bs)) ⟨bs.toArray⟩ (by rw [e])]

/-- what is not read yet. -/
def Rst (S : Nat → Prop) (Pb : Nat) (w : World) (bs : List UInt8) : Prop :=
  ∃ a cap, w.heap[Pb]? = some (.cells #[.slice a bs.length cap] 71 (0, 0)) ∧ Bt S w a cap bs

theorem Rst.keeps {S : Nat → Prop} {Pb : Nat} {w w' : World} {bs : List UInt8} (h : Rst S Pb w bs) {T : Nat → Prop} (hk : Keeps T w w') (hS : ∀ k, S k → T k) (hP : T Pb) : Rst S Pb w' bs := by
  obtain ⟨a, cap, h1, h2⟩ := h
  exact ⟨a, cap, hk.heap h1 hP, h2.keeps (hk.mono fun k _ h => hS k h) fun _ h => h⟩

theorem Rst.lt {S : Nat → Prop} {Pb : Nat} {w : World} {bs : List UInt8} (h : Rst S Pb w bs) : Pb < w.heap.size := by
  obtain ⟨a, cap, h1, _⟩ := h
  exact (Array.getElem?_eq_some_iff.1 h1).1

/-- the reader stands behind n bytes more. -/
theorem Rst.set {S : Nat → Prop} {Pb : Nat} {w : World} {bs : List UInt8} {a : Option Addr} {cap : Nat} (h1 : w.heap[Pb]? = some (.cells #[.slice a bs.length cap] 71 (0, 0))) (hS : ¬ S Pb) {a' : Option Addr} {cap' : Nat} {bs' : List UInt8} (h2 : Bt S w a' cap' bs') : Rst S Pb (w.setCell ⟨Pb, 0, none⟩ (.slice a' bs'.length cap')) bs' :=
  ⟨a', cap', heap_one h1 _, h2.keeps ((Keeps.refl S w).setCell (.inr hS) _) fun _ h => h⟩

/-- what is told of a text that was read, and of what was not. -/
def TOut (S : Nat → Prop) (Pb : Nat) (w : World) (o : Rp.Out (List UInt8)) (e : Ending) (w' : World) : Prop :=
  Keeps (fun k => k ≠ Pb) w w' ∧ match o with
    | .ok s r => e = .returned (.tuple #[.string ⟨s.toArray⟩, .int .i64 0]) ∧ Rst S Pb w' r
    | .err c => e = .returned (.tuple #[.string ⟨#[]⟩, .int .i64 c])

end Go.Proofs.YtbkhnnjjpelfcaaGreatDoor
namespace Go.Proofs.YtbkhnnjjpelfcaaGreatDoor
open Go.RowKit Go.Shelf
attribute [local go_sem] Oper.semAt_some

theorem addr_add_zero (x : Addr) : x.add 0 = x := by
  unfold Addr.add
  split <;> simp_all

theorem sliced_zero (a : Option Addr) (h m : Nat) : sliced a 0 h m 1 = .slice a h m := by
  have : a.map (fun x => x.add 0) = a := by
    cases a with
    | none => rfl
    | some x => simp [addr_add_zero]
  unfold sliced
  rw [Nat.zero_mul, this]
  simp

set_option maxRecDepth 100000 in
set_option maxHeartbeats 1000000 in
theorem near_any (Pb len cap : Nat) (a : Option Addr) (n : Nat) (w : World) (hc : w.cell? ⟨Pb, 0, none⟩ = some (.slice a len cap)) (hl : len ≤ cap) :
    Calls Tryz.prog 68 #[.pointer (some ⟨Pb, 0, none⟩), .int .i64 n] w fun e w' => e = .returned (.slice a (min len n) cap) ∧ Below w.heap.size w w' := by
  have HB : Hid (Below w.heap.size w w) := Lib.hid (Below.refl _ _)
  obtain ⟨mn, hmn⟩ : ∃ mn : Nat, min len n = mn := ⟨_, rfl⟩
  have hmi : min (len : Int) (n : Int) = (mn : Int) := by omega
  have hm0 : (0 : Int) ≤ (mn : Int) := by omega
  have hm1 : (mn : Int) ≤ (cap : Int) := by omega
  rw [hmn]
  have HM := Lib.hid hmn
  clear hmn
  go_enter Tryz.func68, Tryz.ntmps68
  go_upto_region 1 with (fail)
  go_region_held3 (fun w' => w'.cell? ⟨Pb, 0, none⟩ = some (.slice a len cap)) (go_keep) (fail)
  go_wp2
  go_ret
  exact ⟨rfl, HB.out.drew⟩

namespace Rp
theorem endP_cases {α : Type} (a : α) (b : List UInt8) : endP a b = if crlf.isPrefixOf b then .ok a (b.drop 2) else if b.isPrefixOf crlf then .err 6 else .err 5 := by
  unfold crlf
  match b with
  | [] => rfl
  | [x] =>
    unfold endP
    by_cases h : x = 13 <;> simp [h, List.isPrefixOf]
  | x :: y :: t =>
    unfold endP
    by_cases h : x = 13
    · by_cases h2 : y = 10
      · simp [h, h2, List.isPrefixOf]
      · simp [h, h2, List.isPrefixOf]
        exact fun e => h2 e.symm
    · simp [h, List.isPrefixOf]
      intro e
      exact absurd e.symm h
end Rp

theorem hasPrefix_crlf (D : List UInt8) : Lib.hasPrefix (Lib.bytesOf (nums D)) (Lib.bytesOf (nums Rp.crlf)) = Rp.crlf.isPrefixOf D := by rw [nums_bytes, nums_bytes]; rfl
theorem hasPrefix_crlf' (D : List UInt8) : Lib.hasPrefix (Lib.bytesOf (nums Rp.crlf)) (Lib.bytesOf (nums D)) = D.isPrefixOf Rp.crlf := by rw [nums_bytes, nums_bytes]; rfl

theorem crlf_in {W : World} {g : Nat} (h0 : W.heap[g]? = some (.cells #[.int .u8 13, .int .u8 10] 5 (2, 3))) : Lib.BytesIn W (some ⟨g, 0, none⟩) 2 (nums Rp.crlf) := fun _ => ⟨g, 0, rfl, fun i hi => by
  match i, hi with
  | 0, _ => simp [World.cell?, h0, nums, Rp.crlf]
  | 1, _ => simp [World.cell?, h0, nums, Rp.crlf]⟩

theorem cut_some (S : Nat → Prop) (W : World) (a : Option Addr) (cap g : Nat) (D : List UInt8) (h : Bt S W a cap D) (hg : W.heap[g]? = some (.cells #[.int .u8 13, .int .u8 10] 5 (2, 3))) (hp : Rp.crlf.isPrefixOf D = true) :
    ∃ a' cap', Bt S W a' cap' (D.drop 2) ∧ Calls Tryz.prog 92 #[.slice a D.length cap, .slice (some ⟨g, 0, none⟩) 2 2] W fun e W' => e = .returned (.tuple #[.slice a' (D.drop 2).length cap', .bool true]) ∧ W' = W := by
  have hc := Tryz.bytes_CutPrefix_all a (some ⟨g, 0, none⟩) D.length cap 2 2 (nums D) (nums Rp.crlf) W (nums_len D) rfl h.1 h.bytesIn (crlf_in hg)
  rw [hasPrefix_crlf, hp] at hc
  have hl : 2 ≤ D.length := by
    have := (List.isPrefixOf_iff_prefix.1 hp).length_le
    simpa [Rp.crlf] using this
  refine ⟨_, _, h.from hl, hc.mono ?_⟩
  rintro e w' ⟨rfl, rfl⟩
  refine ⟨?_, rfl⟩
  rcases h.2.2 with rfl | ⟨b, off, rfl, _, _, _⟩
  · simp at hl
  · have e1 : Lib.trimPrefixV (some ⟨b, off, none⟩) D.length cap (nums D) (nums Rp.crlf) = Lib.bytesTrimPrefix b off D.length cap (nums D) (nums Rp.crlf) := rfl
    rw [e1]
    unfold Lib.bytesTrimPrefix
    rw [hasPrefix_crlf, hp, if_pos rfl]
    unfold Lib.sliceFrom
    rw [List.length_drop, nums_len]
    by_cases hc : cap = 2 <;> simp [hc, Rp.crlf, Addr.add]

theorem cut_none (S : Nat → Prop) (W : World) (a : Option Addr) (cap g : Nat) (D : List UInt8) (h : Bt S W a cap D) (hg : W.heap[g]? = some (.cells #[.int .u8 13, .int .u8 10] 5 (2, 3))) (hp : Rp.crlf.isPrefixOf D = false) :
    ∃ v, Calls Tryz.prog 92 #[.slice a D.length cap, .slice (some ⟨g, 0, none⟩) 2 2] W fun e W' => e = .returned (.tuple #[v, .bool false]) ∧ W' = W := by
  have hc := Tryz.bytes_CutPrefix_all a (some ⟨g, 0, none⟩) D.length cap 2 2 (nums D) (nums Rp.crlf) W (nums_len D) rfl h.1 h.bytesIn (crlf_in hg)
  rw [hasPrefix_crlf, hp] at hc
  exact ⟨_, hc⟩

theorem pre_any (S : Nat → Prop) (W : World) (a : Option Addr) (cap g : Nat) (D : List UInt8) (h : Bt S W a cap D) (hg : W.heap[g]? = some (.cells #[.int .u8 13, .int .u8 10] 5 (2, 3))) :
    Calls Tryz.prog 93 #[.slice (some ⟨g, 0, none⟩) 2 2, .slice a D.length cap] W fun e W' => e = .returned (.bool (D.isPrefixOf Rp.crlf)) ∧ W' = W := by
  have hc := Tryz.bytes_HasPrefix_all (some ⟨g, 0, none⟩) a 2 2 D.length cap (nums Rp.crlf) (nums D) W rfl (nums_len D) (Nat.le_refl _) (crlf_in hg) h.bytesIn
  rwa [hasPrefix_crlf'] at hc

set_option maxRecDepth 100000 in
set_option maxHeartbeats 4000000 in
theorem text_any (S : Nat → Prop) (Pb : Nat) (bs : List UInt8) (n : Nat) (w : World) (h : Rst S Pb w bs) (hS : ¬ S Pb) :
    Calls Tryz.prog 70 #[.pointer (some ⟨Pb, 0, none⟩), .int .i64 n] w (TOut S Pb w (Rp.textP n bs)) := by
  obtain ⟨a, cap, hbx, hbt⟩ := h
  have hc := (show w.cell? ⟨Pb, 0, none⟩ = some (.slice a bs.length cap) by simp [World.cell?, hbx])
  have hfz := (show w.frozen? ⟨Pb, 0, none⟩ = false by simp [World.frozen?, hbx])
  have hl := hbt.1
  have hcap := hbt.2.1
  by_cases hlt : bs.length < n
  · have hi : (bs.length : Int) < (n : Int) := by omega
    have HR : Hid (Rp.textP n bs = .err 6) := Lib.hid (by unfold Rp.textP; rw [if_pos hlt])
    clear hlt
    go_enter Tryz.func70, Tryz.ntmps70
    go_wp2
    go_ret2
    rw [HR.out]
    exact ⟨Keeps.refl _ _, rfl⟩
  · have hi : (n : Int) ≤ (bs.length : Int) := by omega
    have hi2 : (n : Int) ≤ (cap : Int) := by omega
    have hcv : ∀ W' : World, (convert 36 36 (.slice (some ⟨W'.heap.size, 0, none⟩) 2 2)).run Tryz.prog (W'.alloc (.cells #[.int .u8 13, .int .u8 10] 5)) = .ok (.slice (some ⟨W'.heap.size, 0, none⟩) 2 2) (W'.alloc (.cells #[.int .u8 13, .int .u8 10] 5 (2, 3))) :=
      fun W' => Lib.run_convert_bytes_const W' 36 5 #[.int .u8 13, .int .u8 10] 2 2 Tryz.underlying36 Tryz.underlying5
    have hbd := hbt.from (n := n) (by omega)
    have hconv := (hbt.to n).conv
    rw [List.length_take, show min n bs.length = n by omega] at hconv
    obtain ⟨va, hva⟩ : ∃ va, (if cap = n then a else a.map fun x => x.add n) = va := ⟨_, rfl⟩
    rw [hva] at hbd
    have HR : Hid (Rp.textP n bs = if Rp.crlf.isPrefixOf (bs.drop n) then .ok (bs.take n) ((bs.drop n).drop 2) else if (bs.drop n).isPrefixOf Rp.crlf then .err 6 else .err 5) := Lib.hid (by unfold Rp.textP; rw [if_neg hlt, Rp.endP_cases])
    have hld : (bs.drop n).length = bs.length - n := List.length_drop
    have HD := Lib.hid hld
    have HBD := Lib.hid hbd
    have HBT := Lib.hid hbt
    have HBX := Lib.hid hbx
    have hcase : (n = cap ∧ a = va) ∨ (¬ cap = n ∧ (a.map fun x => x.add n) = va) := by
      by_cases h : cap = n
      · exact .inl ⟨h.symm, by rw [← hva, if_pos h]⟩
      · exact .inr ⟨h, by rw [← hva, if_neg h]⟩
    clear hld hbd hbt hlt hva
    go_enter Tryz.func70, Tryz.ntmps70
    go_upto_region 3 with (fail)
    rcases hcase with ⟨hcn, hv⟩ | ⟨hcn, hv⟩ <;> subst hv
    · subst hcn
      rw [Nat.sub_self] at HBD
      go_region_held3 (fun w' => w'.cell? ⟨Pb, 0, none⟩ = some (.slice a bs.length n)) (go_keep) (fail)
      obtain ⟨wd, hwd⟩ : ∃ wd, w.drew = wd := ⟨_, rfl⟩
      rw [hwd]
      have HBl : Hid (Below w.heap.size w wd) := Lib.hid (by rw [← hwd]; exact (Below.refl _ _).drew)
      have HR2 : Hid (Rp.textP n bs = .err 6) := Lib.hid (by rw [HR.out, List.drop_eq_nil_of_le hl]; rfl)
      clear hwd hc hfz hconv
      obtain ⟨W4, hW4⟩ : ∃ W4, wd.alloc (.cells #[.int .u8 13, .int .u8 10] 5 (2, 3)) = W4 := ⟨_, rfl⟩
      obtain ⟨W5, hW5⟩ : ∃ W5, W4.alloc (.cells #[.int .u8 13, .int .u8 10] 5 (2, 3)) = W5 := ⟨_, rfl⟩
      have HF2 : Hid (TOut S Pb w (Rp.textP n bs) (.returned (.tuple #[.string ⟨#[]⟩, .int .i64 6])) W5) := Lib.hid (by
        rw [HR2.out, ← hW5, ← hW4]
        exact ⟨Keeps.of_below (HBl.out.alloc HBl.out.size _ |>.alloc (by simp; have := HBl.out.size; omega) _) fun k h _ => h, rfl⟩)
      have HW4 := Lib.hid hW4
      have HW5 := Lib.hid hW5
      clear hW4 hW5
      go_wp2_with (first
        | (rw [HW4.out]; go_at_call 92; refine (Tryz.bytes_CutPrefix_e1 _ _ _ _ _ (by omega) _).mono ?_; rintro e w' ⟨rfl, hw'⟩; have HW' := Lib.hid hw'; clear hw')
        | (rw [HW'.out, HW5.out]; go_at_call 93; refine (Tryz.bytes_HasPrefix_e2 _ _ _ _ _ _).mono ?_; rintro e w'' ⟨rfl, hw''⟩; have HW'' := Lib.hid hw''; clear hw''))
      go_ret2
      rw [HW''.out]
      exact HF2.out
    · go_region_held3 (fun w' => w'.cell? ⟨Pb, 0, none⟩ = some (.slice a bs.length cap)) (go_keep) (fail)
      obtain ⟨wd, hwd⟩ : ∃ wd, w.drew = wd := ⟨_, rfl⟩
      rw [hwd]
      have HBl : Hid (Below w.heap.size w wd) := Lib.hid (by rw [← hwd]; exact (Below.refl _ _).drew)
      have hszd : Hid (w.heap.size ≤ wd.heap.size ∧ Pb < w.heap.size) := Lib.hid ⟨HBl.out.size, (Array.getElem?_eq_some_iff.1 HBX.out).1⟩
      clear hwd hc hfz hconv hbx
      obtain ⟨W4, hW4⟩ : ∃ W4, wd.alloc (.cells #[.int .u8 13, .int .u8 10] 5 (2, 3)) = W4 := ⟨_, rfl⟩
      have hb4 : Below w.heap.size w W4 := by rw [← hW4]; exact HBl.out.alloc HBl.out.size _
      have hg : W4.heap[wd.heap.size]? = some (.cells #[.int .u8 13, .int .u8 10] 5 (2, 3)) := by rw [← hW4]; exact World.alloc_heap_new wd _
      have hbx4 := (hb4.block Pb hszd.out.2).trans HBX.out
      have hcc := Boxed.cell hbx4
      have hff := Boxed.frozen hbx4
      have HBT4 := Lib.hid (HBT.out.later hb4)
      have HBD4 := Lib.hid (HBD.out.later hb4)
      have HB4 := Lib.hid hb4
      cases hp1 : Rp.crlf.isPrefixOf (bs.drop n) with
      | true =>
        obtain ⟨a', cap', hbt', hcut⟩ := cut_some S W4 _ _ wd.heap.size _ HBD4.out hg hp1
        rw [HD.out] at hcut
        have hconv : (convert 36 9 (.slice a n cap)).run Tryz.prog (W4.setCell ⟨Pb, 0, none⟩ (.slice a' ((bs.drop n).drop 2).length cap')) = .ok (.string ⟨(bs.take n).toArray⟩) (W4.setCell ⟨Pb, 0, none⟩ (.slice a' ((bs.drop n).drop 2).length cap')) := by
          have := ((HBT4.out.to n).keeps (S' := S) ((Keeps.refl S W4).setCell (p := ⟨Pb, 0, none⟩) (.inr hS) (.slice a' ((bs.drop n).drop 2).length cap')) fun _ h => h).conv
          rwa [List.length_take, show min n bs.length = n by omega] at this
        have HF : Hid (TOut S Pb w (Rp.textP n bs) (.returned (.tuple #[.string ⟨(bs.take n).toArray⟩, .int .i64 0])) (W4.setCell ⟨Pb, 0, none⟩ (.slice a' ((bs.drop n).drop 2).length cap'))) := Lib.hid (by
          rw [HR.out, hp1, if_pos rfl]
          exact ⟨(Keeps.of_below hb4 fun k h _ => h).setCell (.inr (fun h => h rfl)) _, rfl, Rst.set hbx4 hS hbt'⟩)
        have HW4 := Lib.hid hW4
        clear hW4 hb4 hbx4 hg hp1 hbt'
        generalize ((bs.drop n).drop 2).length = m2 at hcut hconv HF
        go_wp2_with (first
          | (rw [HW4.out]; go_at_call 92; refine hcut.mono ?_; rintro e w' ⟨rfl, rfl⟩))
        go_ret2
        exact HF.out
      | false =>
        obtain ⟨v, hcut⟩ := cut_none S W4 _ _ wd.heap.size _ HBD4.out hg hp1
        rw [HD.out] at hcut
        obtain ⟨W5, hW5⟩ : ∃ W5, W4.alloc (.cells #[.int .u8 13, .int .u8 10] 5 (2, 3)) = W5 := ⟨_, rfl⟩
        have hb5 : Below w.heap.size w W5 := by rw [← hW5]; exact hb4.alloc hb4.size _
        have hg5 : W5.heap[W4.heap.size]? = some (.cells #[.int .u8 13, .int .u8 10] 5 (2, 3)) := by rw [← hW5]; exact World.alloc_heap_new W4 _
        have hpre := pre_any S W5 _ _ W4.heap.size _ (HBD.out.later hb5) hg5
        rw [HD.out] at hpre
        have HF : Hid (∀ q, (bs.drop n).isPrefixOf Rp.crlf = q → TOut S Pb w (Rp.textP n bs) (.returned (.tuple #[.string ⟨#[]⟩, .int .i64 (if q then 6 else 5)])) W5) := Lib.hid (fun q hq => by
          rw [HR.out, hp1, hq]
          cases q
          · exact ⟨Keeps.of_below hb5 fun k h _ => h, rfl⟩
          · exact ⟨Keeps.of_below hb5 fun k h _ => h, rfl⟩)
        have HW4 := Lib.hid hW4
        have HW5 := Lib.hid hW5
        obtain ⟨q, hq⟩ : ∃ q, (bs.drop n).isPrefixOf Rp.crlf = q := ⟨_, rfl⟩
        rw [hq] at hpre
        have HF2 := Lib.hid (HF.out q hq)
        clear hW4 hW5 hb4 hb5 hbx4 hg hg5 hp1 hq HF
        cases q <;>
          (go_wp2_with (first
            | (rw [HW4.out]; go_at_call 92; refine hcut.mono ?_; rintro e w' ⟨rfl, hw'⟩; have HW' := Lib.hid hw'; clear hw')
            | (rw [HW'.out, HW5.out]; go_at_call 93; refine hpre.mono ?_; rintro e w'' ⟨rfl, hw''⟩; have HW'' := Lib.hid hw''; clear hw''))
           go_ret2
           rw [HW''.out]
           exact HF2.out)
end Go.Proofs.YtbkhnnjjpelfcaaGreatDoor
namespace Go.Proofs.YtbkhnnjjpelfcaaGreatDoor
open Go.RowKit Go.Shelf

theorem digs_dec : ∀ u : Nat, Dig.digs u = Lib.decDigits u := by
  intro u
  induction u using Nat.strongRecOn with
  | ind u ih =>
    rw [Dig.digs, Lib.decDigits]
    by_cases h : u < 10
    · rw [if_pos h, dif_pos h]
    · rw [if_neg h, dif_neg h, ih _ (by omega)]

theorem itoa_dec (n : Int) : Lib.itoa n = Dig.dec n := by
  unfold Lib.itoa Dig.dec
  by_cases h : n < 0
  · rw [if_pos h, if_pos h, digs_dec, show n.natAbs = (-n).toNat by omega]
  · rw [if_neg h, if_neg h, digs_dec]

theorem dec_len20 {n : Int} (h0 : -9223372036854775808 ≤ n) (h1 : n ≤ 9223372036854775807) : (Dig.dec n).length ≤ 20 := by
  unfold Dig.dec
  split
  · have := Dig.digs_len20 (u := (-n).toNat) (by omega)
    simp; omega
  · have := Dig.digs_len20 (u := n.toNat) (by omega)
    omega

theorem info5 : (Tryz.prog.info? 5).map (fun i => (i.zero, i.size, i.bytes)) = some (some (.int .u8 0), 1, 1) := by kernel_rfl

/-- a row of the call's own that holds these bytes. -/
def Buf (base : Nat) (bs : List UInt8) (v : Value) (W : World) : Prop := W.ownsRow base 5 1 v bs.length (Lib.byteCells bs)

/-- what is told behind an addition to such a row. -/
def BOut (base : Nat) (bs : List UInt8) (W : World) (e : Ending) (W' : World) : Prop :=
  ∃ v, e = .returned v ∧ Buf base bs v W' ∧ Below base W W' ∧ Lib.OthersKept 5 none W W'

set_option maxRecDepth 100000 in
theorem withNumber_any (base : Nat) (bs : List UInt8) (v : Value) (n : Int) (W : World) (h : Buf base bs v W) (hb : base ≤ W.heap.size) (h8 : 8 ≤ base) (hl : bs.length ≤ 100000000000000) (h0 : -9223372036854775808 ≤ n) (h1 : n ≤ 9223372036854775807) (henv : Env W) :
    Calls Tryz.prog 82 #[v, .int .i64 n] W (BOut base (bs ++ Dig.dec n) W) := by
  have hc := Tryz.strconv_AppendInt_10 base bs.length n h0 h1 v _ W h hb (by omega) (fun W' hW => tabIs_kept henv.tab (hW.block _ (by omega)))
  rw [itoa_dec] at hc
  go_enter Tryz.func82, Tryz.ntmps82
  go_wp2_with (go_at_call 102; refine hc.mono ?_; rintro e W1 ⟨v', rfl, hown, hbl, hok⟩; have H1 := Lib.hid (And.intro hown (And.intro hbl hok)); clear hown hbl hok hc)
  go_ret
  refine ⟨_, rfl, ?_, H1.out.2.1, H1.out.2.2⟩
  unfold Buf
  rw [List.length_append]
  simpa [Lib.byteCells] using H1.out.1

/-- an append of a string's bytes. -/
theorem run_append_str (w : World) (base t u ty e : Nat) (i : TypeInfo) (ht : Tryz.prog.underlying t = some (.slice e)) (hu : Tryz.prog.underlying u = some .string) (hi : Tryz.prog.info? e = some i) (hz : i.zero = some (.int .u8 0))
    (hsize : i.size = 1) (hby : i.bytes = 1) (v : Value) (n : Nat) (xs : List Value) (hown : w.ownsRow base e 1 v n xs) (s : ByteArray) (h63 : n + s.size ≤ maxLen) (hbytes : n + s.size ≤ 140737488355328) (hbase : base ≤ w.heap.size) :
    ∃ v' w', (Builtin.append_ #[t, u] ty #[v, .string s]).run Tryz.prog w = .ok v' w' ∧ w'.ownsRow base e 1 v' (n + s.size) (xs ++ Lib.strCells s) ∧ w.grownBy w' v.ownBlock := by
  obtain ⟨v', w', hr, h1, h2, _⟩ := Lib.run_append_own_string (P := Tryz.prog) w base t u ty e i ht hu hi hz hsize hby v n xs hown s h63 hbytes hbase
  exact ⟨v', w', hr, h1, h2⟩

theorem wp_append_str {o : Oper} {a : Act} {w : World} {K : Act → World → Prop} {Q : Exit → Act → World → Prop} (sl x : Operand) (t u : TypeId)
    (ho : o.op = .call { callee := .builtin .append, args := #[sl, x], argTypes := #[t, u] })
    (base : Nat) (e : TypeId) (i : TypeInfo) (ht : Tryz.prog.underlying t = some (.slice e)) (hu : Tryz.prog.underlying u = some .string) (hi : Tryz.prog.info? e = some i) (hz : i.zero = some (.int .u8 0))
    (hsize : i.size = 1) (hby : i.bytes = 1) (v : Value) (n : Nat) (xs : List Value) (hs : a.eval sl = v) (hown : w.ownsRow base e 1 v n xs) (s : ByteArray) (hx : a.eval x = .string s)
    (h63 : n + s.size ≤ maxLen) (hbytes : n + s.size ≤ 140737488355328) (hbase : base ≤ w.heap.size)
    (h : ∀ v' w', w'.ownsRow base e 1 v' (n + s.size) (xs ++ Lib.strCells s) → w.grownBy w' v.ownBlock → K (a.put o.dst v') w') : Oper.wp Tryz.prog o a w K Q := by
  obtain ⟨v', w', hr, h2, h3⟩ := run_append_str w base t u o.type e i ht hu hi hz hsize hby v n xs hown s h63 hbytes hbase
  unfold Oper.wp execOp
  simp only [ho, resolve, invoke, builtin, Sem.run_bind, Sem.run_pure, Result.andThen_ok, List.map_toArray, List.map_cons, List.map_nil, hs, hx, hr]
  exact h v' w' h2 h3

theorem step_append_str {ops : Array Oper} {o : Oper} {a : Act} {w : World} {K : Act → World → Prop} {Q : Exit → Act → World → Prop} {E : Prop} (hgd : o.guard = none) (sl x : Operand) (t u : TypeId)
    (ho : o.op = .call { callee := .builtin .append, args := #[sl, x], argTypes := #[t, u] })
    (base : Nat) (e : TypeId) (i : TypeInfo) (ht : Tryz.prog.underlying t = some (.slice e)) (hu : Tryz.prog.underlying u = some .string) (hi : Tryz.prog.info? e = some i) (hz : i.zero = some (.int .u8 0))
    (hsize : i.size = 1) (hby : i.bytes = 1) (v : Value) (n : Nat) (xs : List Value) (hs : a.eval sl = v) (hown : w.ownsRow base e 1 v n xs) (s : ByteArray) (hx : a.eval x = .string s)
    (h63 : n + s.size ≤ maxLen) (hbytes : n + s.size ≤ 140737488355328) (hbase : base ≤ w.heap.size)
    (h : ∀ v' w', w'.ownsRow base e 1 v' (n + s.size) (xs ++ Lib.strCells s) → w.grownBy w' v.ownBlock → K (a.put o.dst v') w') :
    if Region.wanted o (yielded ops a.tmps) = true then Oper.wp Tryz.prog o a w K Q else E := by
  have hw : Region.wanted o (yielded ops a.tmps) = true := by simp [Region.wanted, hgd]
  rw [if_pos hw]
  exact wp_append_str sl x t u ho base e i ht hu hi hz hsize hby v n xs hs hown s hx h63 hbytes hbase h

theorem wpList_append_str {w : World} {ops : Array Oper} {rest : List Oper} {o : Oper} {a : Act} {Q : Exit → Act → World → Prop} (hgd : o.guard = none) (sl x : Operand) (t u : TypeId)
    (ho : o.op = .call { callee := .builtin .append, args := #[sl, x], argTypes := #[t, u] })
    (base : Nat) (e : TypeId) (i : TypeInfo) (ht : Tryz.prog.underlying t = some (.slice e)) (hu : Tryz.prog.underlying u = some .string) (hi : Tryz.prog.info? e = some i) (hz : i.zero = some (.int .u8 0))
    (hsize : i.size = 1) (hby : i.bytes = 1) (v : Value) (n : Nat) (xs : List Value) (hs : a.eval sl = v) (hown : w.ownsRow base e 1 v n xs) (s : ByteArray) (hx : a.eval x = .string s)
    (h63 : n + s.size ≤ maxLen) (hbytes : n + s.size ≤ 140737488355328) (hbase : base ≤ w.heap.size)
    (h : ∀ v' w', w'.ownsRow base e 1 v' (n + s.size) (xs ++ Lib.strCells s) → w.grownBy w' v.ownBlock → wpList Tryz.prog ops Q rest (a.put o.dst v') w') : wpList Tryz.prog ops Q (o :: rest) a w :=
  wpList_plain hgd fun _ hK => wp_append_str sl x t u ho base e i ht hu hi hz hsize hby v n xs hs hown s hx h63 hbytes hbase fun v' w' h2 h3 => hK _ _ (h v' w' h2 h3)

/-- a row behind an addition. -/
structure Step (base : Nat) (bs : List UInt8) (v : Value) (W W' : World) : Prop where
  buf : Buf base bs v W'
  below : Below base W W'
  others : Lib.OthersKept 5 none W W'

theorem Step.start {base : Nat} {bs : List UInt8} {v : Value} {W : World} (h : Buf base bs v W) : Step base bs v W W := ⟨h, Below.refl _ _, Lib.OthersKept.refl _ _ _⟩
theorem Step.alloc {base : Nat} {bs : List UInt8} {v : Value} {W A : World} (h : Step base bs v W A) (hb : base ≤ W.heap.size) (o : Obj) : Step base bs v W (A.alloc o) :=
  ⟨h.buf.alloc _, h.below.alloc (by have := h.below.size; omega) _, h.others.alloc _⟩
theorem Step.drew {base : Nat} {bs : List UInt8} {v : Value} {W A : World} (h : Step base bs v W A) : Step base bs v W A.drew := ⟨h.buf, h.below.drew, h.others.drew⟩
theorem Step.grown {base : Nat} {bs cs : List UInt8} {v v' : Value} {W A C : World} {k : Nat} {ys : List Value} (h : Step base bs v W A) (hb : base ≤ W.heap.size) (ho : C.ownsRow base 5 1 v' (bs.length + k) (Lib.byteCells bs ++ ys)) (hg : A.grownBy C v.ownBlock) (hk : k = cs.length) (hy : ys = Lib.byteCells cs) : Step base (bs ++ cs) v' W C := by
  subst hk hy
  refine ⟨?_, h.below.grown hg (by have := h.below.size; omega) fun x hx => (h.buf.lt x hx).1, h.others.grown hg (Lib.ownsRow_kind h.buf)⟩
  unfold Buf
  rw [List.length_append]
  simpa [Lib.byteCells] using ho
/-- .. a cell of another kind's block stands. -/
theorem Step.cell {base : Nat} {bs : List UInt8} {v : Value} {W A : World} (h : Step base bs v W A) {b t : Nat} {cs : Array Value} {fr : Nat × Nat} (hb : W.heap[b]? = some (.cells cs t fr)) (ht : t ≠ 5) : A.heap[b]? = some (.cells cs t fr) :=
  h.others b _ hb (by simp) fun c fz e => by injection e with _ e; exact ht e

end Go.Proofs.YtbkhnnjjpelfcaaGreatDoor
