/- HashRuns: a row of fields, a row of sixteen texts. -/
import Derived.Test.YtfbfejeccfoioaaHsOpen
import Derived.Test.YtfbfejeccfoioaaHsRunPlain
import Derived.Test.YtfbfejeccfoioaaHsRising
import Derived.Test.YtfbfejeccfoioaaDig
namespace Go.Proofs.Ytfbfejeccfoioaa
open Go.RowKit Go.Shelf
set_option linter.unusedVariables false
set_option linter.unusedSimpArgs false

theorem nm16_str (k : Nat) : [97 + UInt8.ofNat k] = Hs.nm16 k := by
  unfold Hs.nm16
  rw [UInt8.ofNat_add]
  rfl
/-- fields in a row that lies behind a place. -/
def RowO (B : Nat) (u : Value) (l : List Fd) (W : World) : Prop := W.ownsRow B 42 2 u l.length (fcells l)
theorem RowO.later {B : Nat} {u : Value} {l : List Fd} {W W' : World} (h : RowO B u l W) (hb : Below W.heap.size W W') : RowO B u l W' :=
  owns_kept (S := fun _ => True) h (Keeps.of_below hb fun _ h _ => h) fun _ _ => trivial
theorem RowO.open_ {B : Nat} {u : Value} {l : List Fd} {W : World} (h : RowO B u l W) (hok : ∀ x ∈ l, OkF x) : ∃ a c, u = .slice a l.length c ∧ Fds W a c l := by
  obtain ⟨a, c, hv, hf, -⟩ := fds_of_row h fun p hp => by have := hok p hp; unfold OkF at this; omega
  exact ⟨a, c, hv, hf⟩
theorem set_o {B : Nat} {u : Value} {l : List Fd} {n v : List UInt8} {W : World} (h : RowO B u l W) (hB : B ≤ W.heap.size) (hl : l.length ≤ 1000) (hok : ∀ x ∈ l, OkF x) (hnv : OkF (n, v)) :
    Calls Try.prog 11 #[u, .string ⟨n.toArray⟩, .string ⟨v.toArray⟩] W fun e W' => ∃ u', e = .returned u' ∧ RowO B u' (Hs.set l n v) W' ∧ Below W.heap.size W W' := by
  obtain ⟨a, c, rfl, hf⟩ := h.open_ hok
  refine (callsIn_wide.1 (set_any a c l n v W hf hl hok hnv)).mono ?_
  rintro e W' ⟨u', rfl, hr⟩
  exact ⟨u', rfl, owns_base hr.1 hB, hr.2⟩
theorem del_o {B : Nat} {u : Value} {l : List Fd} {n : List UInt8} {W : World} (h : RowO B u l W) (hB : B ≤ W.heap.size) (hl : l.length ≤ 1000) (hok : ∀ x ∈ l, OkF x) :
    Calls Try.prog 13 #[u, .string ⟨n.toArray⟩] W fun e W' => ∃ u', e = .returned u' ∧ RowO B u' (Hs.del l n) W' ∧ Below W.heap.size W W' := by
  obtain ⟨a, c, rfl, hf⟩ := h.open_ hok
  refine (callsIn_wide.1 (del_any a c l n W hf hl hok)).mono ?_
  rintro e W' ⟨u', rfl, hr⟩
  exact ⟨u', rfl, owns_base hr.1 hB, hr.2⟩
theorem get_o {B : Nat} {u : Value} {l : List Fd} {n : List UInt8} {W : World} (h : RowO B u l W) (hl : l.length ≤ 1000) (hok : ∀ x ∈ l, OkF x) :
    Calls Try.prog 8 #[u, .string ⟨n.toArray⟩] W fun e W' => e = .returned (.tuple #[.string ⟨(Hs.getP l n).1.toArray⟩, .bool (Hs.getP l n).2]) ∧ Below W.heap.size W W' := by
  obtain ⟨a, c, rfl, hf⟩ := h.open_ hok
  exact callsIn_wide.1 (get_any a c l n W hf hl hok)
theorem ris_o {B : Nat} {u : Value} {l : List Fd} {W : World} (h : RowO B u l W) (hl : l.length ≤ 1000) (hok : ∀ x ∈ l, OkF x) :
    Calls Try.prog 6 #[u] W fun e W' => e = .returned (.bool (Hs.risF l)) ∧ Below W.heap.size W W' := by
  obtain ⟨a, c, rfl, hf⟩ := h.open_ hok
  exact rising_any a c l W hf (by omega)
theorem names_o {B : Nat} {u : Value} {l : List Fd} {W : World} (h : RowO B u l W) (hl : l.length ≤ 1000) (hok : ∀ x ∈ l, OkF x) :
    Calls Try.prog 16 #[u] W fun e W' => (∃ a c, e = .returned (.slice a l.length c)) ∧ Below W.heap.size W W' := by
  obtain ⟨a, c, rfl, hf⟩ := h.open_ hok
  refine (callsIn_wide.1 (names_any a c l W hf hl hok)).mono ?_
  rintro e W' ⟨u', rfl, hr⟩
  obtain ⟨a2, c2, rfl, -⟩ := hr.words fun s hs => by
    obtain ⟨x, hx, rfl⟩ := List.mem_map.1 hs
    have := (hok x hx).1
    omega
  exact ⟨⟨a2, c2, by rw [List.length_map]⟩, hr.2⟩

/-- sixteen texts in a row of the call's own. -/
def HRow (W : World) (g : Nat) (H : List Hs.K) : Prop :=
  g < W.heap.size ∧ H.length = 16 ∧ ∀ k, k < 16 → W.cell? ⟨g, k, none⟩ = some (.string ⟨(H.getD k []).toArray⟩) ∧ W.frozen? ⟨g, k, none⟩ = false
theorem HRow.later {W W' : World} {g : Nat} {H : List Hs.K} (h : HRow W g H) (hb : Below W.heap.size W W') : HRow W' g H := by
  obtain ⟨h1, h2, h3⟩ := h
  refine ⟨Nat.lt_of_lt_of_le h1 hb.size, h2, fun k hk => ?_⟩
  have e := hb.block g h1
  rw [World.cell?_of_block (w := W) (w' := W') (a := ⟨g, k, none⟩) e, World.frozen?_of_block (w := W) (w' := W') (a := ⟨g, k, none⟩) e]
  exact h3 k hk
theorem HRow.set {W : World} {g j : Nat} {H : List Hs.K} (h : HRow W g H) (hj : j < 16) (v : Hs.K) : HRow (W.setCell ⟨g, j, none⟩ (.string ⟨v.toArray⟩)) g (H.set j v) := by
  obtain ⟨h1, h2, h3⟩ := h
  refine ⟨by simpa using h1, by simpa using h2, fun k hk => ⟨?_, by simpa using (h3 k hk).2⟩⟩
  rw [Hs.getD_set16 (by rw [h2]; exact hj)]
  by_cases hkj : k = j
  · subst hkj
    rw [if_pos rfl]
    exact World.cell?_setCell_same _ _ _ (h3 k hk).1
  · rw [if_neg hkj, World.cell?_setCell_other _ _ _ _ (by first | (simp; done) | (simp; omega))]
    exact (h3 k hk).1
theorem make16 (w : World) : ∃ cs, (Instr.makeSlice 34 (.int .i64 16) (.int .i64 16)).run Try.prog w = .ok (.slice (some ⟨w.heap.size, 0, none⟩) 16 16) (w.alloc (.cells cs 9)) ∧ HRow (w.alloc (.cells cs 9)) w.heap.size (List.replicate 16 []) := by
  obtain ⟨i, hi, hz, hs, hb⟩ := info_parts info9
  have h := run_makeSlice (P := Try.prog) (w := w) 34 9 i (.string ⟨#[]⟩) Try.underlying34 hi hz .i64 .i64 16 16 (by decide) (by decide) (by rw [hs]; decide) (by rw [hb]; decide) (by decide)
  rw [hs] at h
  refine ⟨_, h, by simp, by simp, fun j hj => ?_⟩
  have hg := World.alloc_heap_new w (.cells (madeCells (Value.string ⟨#[]⟩).cells ((16 : Int).toNat * 1)) 9)
  constructor
  · rw [cell_of_row _ _ j _ _ _ hg]
    have e : (List.replicate 16 ([] : Hs.K)).getD j [] = [] := by rw [List.getD, List.getElem?_replicate]; split <;> rfl
    rw [e]
    simp [madeCells, Value.cells, hj, Nat.mod_one]
  · unfold World.frozen?
    rw [hg]
    simp
end Go.Proofs.Ytfbfejeccfoioaa
