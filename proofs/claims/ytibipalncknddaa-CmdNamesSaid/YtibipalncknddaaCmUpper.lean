/- Bytes of a call's own in memory; the contract of the reference's Upper. -/
import Derived.Test.YtibipalncknddaaCmBase
import Derived.Lib.ConvBytes
import Derived.Lib.AtoiErrMem
namespace Go.Proofs.Ytibipalncknddaa
open Go.RowKit Go.Shelf

/-- a row of bytes that may be written. -/
def Row8 (w : World) (g : Nat) (l : List UInt8) : Prop := g < w.heap.size ∧ ∀ k, k < l.length → w.cell? ⟨g, k, none⟩ = some (.int .u8 ((l.getD k 0).toNat : Int)) ∧ w.frozen? ⟨g, k, none⟩ = false

theorem row8_new (w : World) (l : List UInt8) : Row8 (Lib.bytesWorld w 5 ⟨l.toArray⟩) w.heap.size l := by
  refine ⟨by rw [Lib.bytesWorld_size]; omega, fun k hk => ?_⟩
  have hs : (⟨l.toArray⟩ : ByteArray).size = l.length := by simp [ByteArray.size]
  refine ⟨?_, ?_⟩
  · have := Lib.bytesWorld_cell w 5 ⟨l.toArray⟩ k (by rw [hs]; exact hk)
    simpa using this
  · have := Lib.bytesWorld_at_new w 5 ⟨l.toArray⟩
    have hsz : k < (Lib.bytesCells w 5 ⟨l.toArray⟩).size := by
      simp [Lib.bytesCells]
      omega
    simp [World.frozen?, this]
    omega

theorem Row8.set {w : World} {g : Nat} {l : List UInt8} (h : Row8 w g l) (k : Nat) (hk : k < l.length) (x : UInt8) : Row8 (w.setCell ⟨g, k, none⟩ (.int .u8 (x.toNat : Int))) g (l.set k x) := by
  refine ⟨by simpa using h.1, fun j hj => ?_⟩
  rw [List.length_set] at hj
  obtain ⟨c, f⟩ := h.2 j hj
  refine ⟨?_, by simpa using f⟩
  by_cases hjk : j = k
  · subst hjk
    rw [World.cell?_setCell_same' _ _ _ (by rw [c]; rfl), Cm.getD_eq (by rw [List.length_set]; exact hk)]
    simp
  · rw [World.cell?_setCell_other _ _ _ _ (by first | (simp; done) | (simp; omega)), c, Cm.getD_eq hj, Cm.getD_eq (by rw [List.length_set]; exact hj), List.getElem_set_ne (fun e => hjk e.symm)]

theorem fold_to (l : List UInt8) (acc : ByteArray) : (l.map fun b => (b.toNat : Int)).foldl (fun r n => r.push (UInt8.ofNat n.toNat)) acc = ⟨acc.data ++ l.toArray⟩ := by
  induction l generalizing acc with
  | nil => simp
  | cons b l ih =>
    rw [List.map_cons, List.foldl_cons, ih]
    apply ByteArray.ext
    simp [ByteArray.push]
theorem fold_bytes (l : List UInt8) : (l.map fun b => (b.toNat : Int)).foldl (fun r n => r.push (UInt8.ofNat n.toNat)) ByteArray.empty = ⟨l.toArray⟩ := by
  rw [fold_to]
  simp

theorem Row8.conv {w : World} {g : Nat} {l : List UInt8} (h : Row8 w g l) (cap : Nat) :
    (convert 35 9 (.slice (some ⟨g, 0, none⟩) l.length cap)).run Try.prog w = .ok (.string ⟨l.toArray⟩) w := by
  rw [run_convert_bytes_string _ _ _ _ _ _ _ Try.underlying35 Try.underlying5 Try.underlying9]
  have hl := run_loadCells_list (P := Try.prog) w ⟨g, 0, none⟩ ((l.map fun b => (b.toNat : Int)).map (Value.int .u8)) (fun j v hj => by
    have hjl : j < l.length := by
      have := (List.getElem?_eq_some_iff.1 hj).1
      simpa using this
    have e : (⟨g, 0, none⟩ : Addr).add j = ⟨g, 0 + j, none⟩ := by unfold Addr.add; split <;> simp_all
    rw [e, Nat.zero_add, (h.2 j hjl).1, Cm.getD_eq hjl]
    simpa [hjl] using hj)
  simp only [List.length_map] at hl
  rw [run_bytesToString _ _ _ _ (l.map fun b => (b.toNat : Int)) hl]
  rw [fold_bytes]

theorem up_take {n : List UInt8} {k : Nat} (hk : k < n.length) : (Cm.upS (n.take k) ++ n.drop k).getD k 0 = n.getD k 0 := by
  have hl : (Cm.upS (n.take k)).length = k := by simp [Cm.upS]; omega
  simp [List.getD, List.getElem?_append_right, hl]
theorem up_step {n : List UInt8} {k : Nat} (hk : k < n.length) : (Cm.upS (n.take k) ++ n.drop k).set k (Cm.cap (n.getD k 0)) = Cm.upS (n.take (k + 1)) ++ n.drop (k + 1) := by
  have hl : (Cm.upS (n.take k)).length = k := by simp [Cm.upS]; omega
  rw [List.set_append_right _ _ (by omega), hl, Nat.sub_self, List.drop_eq_getElem_cons hk, List.set_cons_zero, Cm.getD_eq hk, List.take_succ_eq_append_getElem hk]
  unfold Cm.upS
  rw [List.map_append, List.append_assoc]
  rfl
theorem up_same {n : List UInt8} {k : Nat} (hk : k < n.length) (h : Cm.cap (n.getD k 0) = n.getD k 0) : Cm.upS (n.take k) ++ n.drop k = Cm.upS (n.take (k + 1)) ++ n.drop (k + 1) := by
  rw [← up_step hk, h]
  apply List.ext_getElem
  · simp
  · intro i h1 h2
    by_cases hi : i = k
    · subst hi
      have := up_take hk
      rw [Cm.getD_eq h1] at this
      rw [List.getElem_set_self, this]
    · rw [List.getElem_set_ne (fun e => hi e.symm)]

theorem cap_facts (c : UInt8) : (97 ≤ (c.toNat : Int) ∧ (c.toNat : Int) ≤ 122 → ((Cm.cap c).toNat : Int) = (c.toNat : Int) - 32) ∧ (¬ (97 ≤ (c.toNat : Int) ∧ (c.toNat : Int) ≤ 122) → Cm.cap c = c) := by
  unfold Cm.cap
  refine ⟨fun ⟨h1, h2⟩ => ?_, fun h => ?_⟩
  · rw [if_pos ⟨by rw [UInt8.le_iff_toNat_le]; simp; omega, by rw [UInt8.le_iff_toNat_le]; simp; omega⟩, UInt8.toNat_sub_of_le _ _ (by rw [UInt8.le_iff_toNat_le]; simp; omega)]
    simp
    omega
  · rw [if_neg]
    rintro ⟨g1, g2⟩
    rw [UInt8.le_iff_toNat_le] at g1 g2
    simp at g1 g2
    omega

set_option maxRecDepth 100000 in
set_option maxHeartbeats 2000000 in
theorem upper_any (n : List UInt8) (w : World) (hn : n.length ≤ 1000) :
    Calls Try.prog 25 #[.string ⟨n.toArray⟩] w fun e W' => e = .returned (.string ⟨(Cm.upS n).toArray⟩) ∧ Below w.heap.size w W' := by
  have hs : (⟨n.toArray⟩ : ByteArray).size = n.length := by simp [ByteArray.size]
  have hcv : ∀ W, (convert 9 35 (.string ⟨n.toArray⟩)).run Try.prog W = .ok (.slice (some ⟨W.heap.size, 0, none⟩) n.length (grownCap W n.length 0 5)) (Lib.bytesWorld W 5 ⟨n.toArray⟩) := fun W => by
    have := Lib.run_convert_string_bytes (P := Try.prog) W 9 35 5 ⟨n.toArray⟩ Try.underlying9 Try.underlying35 Try.underlying5
    rwa [hs] at this
  have hr := row8_new w n
  have hb := Lib.bytesWorld_below w 5 ⟨n.toArray⟩
  have HR := Lib.hid hr
  have HB := Lib.hid hb
  have hnI : (n.length : Int) ≤ 1000 := by omega
  clear hr hb hs
  go_enter Try.func25, Try.ntmps25
  go_wp2
  generalize Lib.bytesWorld w 5 ⟨n.toArray⟩ = w1 at *
  generalize grownCap w n.length 0 5 = cp at *
  go_loopw [4] (fun i wr => ∃ k : Nat, k ≤ n.length ∧ i = .int .i64 k ∧ Hid (Row8 wr w.heap.size (Cm.upS (n.take k) ++ n.drop k)) ∧ Hid (Below w.heap.size w wr)) (fun i _ => n.length - (intOf i).toNat)
  case atStart => exact ⟨0, Nat.zero_le _, rfl, Lib.hid (by simpa [Cm.upS] using HR.out), HB⟩
  case round =>
    obtain ⟨k, hk, rfl, HRk, HBk⟩ := hrel
    by_cases hlt : k < n.length
    · have hl : (Cm.upS (n.take k) ++ n.drop k).length = n.length := by simp [Cm.upS]; omega
      obtain ⟨c1, f1⟩ := HRk.out.2 k (by rw [hl]; exact hlt)
      rw [up_take hlt] at c1
      have k0 : (0 : Int) ≤ (k : Int) := by omega
      have k1 : (k : Int) < (n.length : Int) := by omega
      have hset := HRk.out.set k (by rw [hl]; exact hlt) (Cm.cap (n.getD k 0))
      rw [up_step hlt] at hset
      have hb2 : Below w.heap.size w (wr.setCell ⟨w.heap.size, k, none⟩ (.int .u8 ((Cm.cap (n.getD k 0)).toNat : Int))) := HBk.out.setCell (p := ⟨w.heap.size, k, none⟩) (Nat.le_refl _) _
      have hsame := fun h => up_same (n := n) hlt h
      have HSet := Lib.hid hset
      have HB2 := Lib.hid hb2
      have hcapv := cap_facts (n.getD k 0)
      have HC := Lib.hid hcapv
      have hx255 : ((n.getD k 0).toNat : Int) ≤ 255 := by have := (n.getD k 0).toNat_lt; omega
      have hx0 : (0 : Int) ≤ ((n.getD k 0).toNat : Int) := by omega
      have HSm := Lib.hid hsame
      clear hset hb2 hsame hcapv hl
      generalize Cm.cap (n.getD k 0) = cc at *
      generalize n.getD k 0 = cn at *
      by_cases h97 : 97 ≤ (cn.toNat : Int)
      · by_cases h122 : (cn.toNat : Int) ≤ 122
        · have hv := HC.out.1 ⟨h97, h122⟩
          rw [hv] at HSet HB2
          clear hv
          generalize (cn.toNat : Int) = x at *
          go_wp2
          go_roundw
          case rel => exact ⟨k + 1, by omega, by go_num, HSet, HB2⟩
          case measure => simp [intOf]; omega
        · have h122' : 122 < (cn.toNat : Int) := by omega
          have HR2 : Hid (Row8 wr w.heap.size (Cm.upS (n.take (k + 1)) ++ n.drop (k + 1))) := Lib.hid (by rw [← HSm.out (HC.out.2 (by omega))]; exact HRk.out)
          clear h122
          generalize (cn.toNat : Int) = x at *
          go_wp2
          go_roundw
          case rel => exact ⟨k + 1, by omega, by go_num, HR2, HBk⟩
          case measure => simp [intOf]; omega
      · have h97' : (cn.toNat : Int) < 97 := by omega
        have HR2 : Hid (Row8 wr w.heap.size (Cm.upS (n.take (k + 1)) ++ n.drop (k + 1))) := Lib.hid (by rw [← HSm.out (HC.out.2 (by omega))]; exact HRk.out)
        clear h97
        generalize (cn.toNat : Int) = x at *
        go_wp2
        go_roundw
        case rel => exact ⟨k + 1, by omega, by go_num, HR2, HBk⟩
        case measure => simp [intOf]; omega
    · obtain rfl : k = n.length := by omega
      have hre : Row8 wr w.heap.size (Cm.upS n) := by have := HRk.out; simpa using this
      have hcb := hre.conv cp
      have hul : (Cm.upS n).length = n.length := by simp [Cm.upS]
      rw [hul] at hcb
      clear hre hul
      go_wp2
      go_ret
      exact ⟨rfl, HBk.out⟩

end Go.Proofs.Ytibipalncknddaa
