/- Slices of bytes that came in; what Make tells; a byte as a text. -/
import Derived.Test.YtdnonginlbjcoaaItHSet
import Derived.Test.YtdnonginlbjcoaaItSAdd
import Derived.Test.YtdnonginlbjcoaaItMk
import Derived.Test.YtdnonginlbjcoaaDig
import Derived.Test.YtdnonginlbjcoaaItCopy
import Derived.IntWalk
namespace Go.Proofs.Ytdnonginlbjcoaa
open Go.RowKit Go.Shelf
set_option linter.unusedVariables false

/-- What is told of a slice of bytes: so many cells hold these bytes. -/
def Bytes (w : World) (a : Option Addr) (l : List UInt8) : Prop :=
  l = [] ∨ ∃ b off, a = some ⟨b, off, none⟩ ∧ ∀ k, k < l.length → w.cell? ⟨b, off + k, none⟩ = some (.int .u8 ((l.getD k 0).toNat : Int))

theorem Bytes.later {w w' : World} {a : Option Addr} {l : List UInt8} (h : Bytes w a l) (hb : Below w.heap.size w w') : Bytes w' a l := by
  rcases h with h | ⟨b, off, ha, hc⟩
  · exact .inl h
  · refine .inr ⟨b, off, ha, fun k hk => ?_⟩
    have h1 := hc k hk
    rw [hb.cell (p := ⟨b, off + k, none⟩) (World.block_lt_of_cell? w _ h1)]
    exact h1

/-- the elements of a slice of bytes that came in. -/
theorem bytes_of (w : World) (x : Addr) (len cap : Nat) (zs : List Int) (hl : len ≤ cap) (hm : cap ≤ maxLen) (hz : len ≤ zs.length)
    (hcell : ∀ i, i < zs.length → w.cell? (x.add i) = some (.int .u8 (zs.getD i 0))) (hwz : ∀ n ∈ zs, (Lit.int .u8 n).wf = true) :
    ∃ l : List UInt8, len = l.length ∧ l.length ≤ maxLen ∧ Bytes w (some x) l := by
  have hlen : ((zs.take len).map fun n => UInt8.ofNat n.toNat).length = len := by simp; omega
  refine ⟨(zs.take len).map fun n => UInt8.ofNat n.toNat, hlen.symm, by rw [hlen]; omega, ?_⟩
  by_cases h0 : len = 0
  · left; subst h0; simp
  · right
    obtain ⟨b, off, spot⟩ := x
    have hc := hcell 0 (by omega)
    have hspot : spot = none := by simpa [Addr.add] using World.cell?_spot hc
    subst hspot
    refine ⟨b, off, rfl, fun k hk => ?_⟩
    rw [hlen] at hk
    have hk' : k < zs.length := by omega
    have h1 := hcell k hk'
    have h2 := hwz (zs[k]) (List.getElem_mem hk')
    have h3 : 0 ≤ zs[k] ∧ zs[k] < 256 := by
      simp [Lit.wf, IntKind.min, IntKind.max, IntKind.signed, IntKind.bits] at h2
      omega
    have e : zs.getD k 0 = zs[k] := by simp [List.getD, hk']
    have e2 : (((zs.take len).map fun n => UInt8.ofNat n.toNat).getD k 0).toNat = zs[k].toNat := by
      simp [List.getD, hk, hk']
      omega
    have e3 : ((((zs.take len).map fun n => UInt8.ofNat n.toNat).getD k 0).toNat : Int) = zs[k] := by rw [e2]; omega
    rw [e3, ← e, ← h1]
    by_cases hk0 : k = 0 <;> simp [Addr.add, hk0]


theorem conv_at (W : World) (b : Nat) (x : Int) (h : W.cell? ⟨b, 0, none⟩ = some (.int .u8 x)) :
    (convert 33 9 (.slice (some ⟨b, 0, none⟩) 1 1)).run Try.prog W = .ok (.string ⟨#[UInt8.ofNat x.toNat]⟩) W := by
  rw [run_convert_bytes_string _ _ _ _ _ _ _ Try.underlying33 Try.underlying5 Try.underlying9]
  have hl := run_loadCells_list (P := Try.prog) W ⟨b, 0, none⟩ ([x].map (Value.int .u8)) (fun j v hj => by
    match j, hj with
    | 0, hj =>
      simp at hj
      subst hj
      simpa [Addr.add] using h)
  simp only [List.length_map, List.length_cons, List.length_nil] at hl
  rw [run_bytesToString _ _ _ _ [x] hl]
  rfl

/-- what Make tells. -/
def MadeOut (i : It.I) (w : World) (e : Ending) (W : World) : Prop :=
  ∃ aF cF aL cL, e = .returned (itv i.kind i.s aF i.f.length cF aL i.l.length cL i.exp) ∧ Fds W aF cF i.f ∧ Wds W aL cL i.l ∧ Below w.heap.size w W

/-- the boxes behind Make's head. -/
def MkAt (w : World) (K e : Int) (wx : World) : Prop :=
  ItBox wx (w.heap.size + 1) K [] none 0 0 none 0 0 e ∧ ItBox wx w.heap.size 0 [] none 0 0 none 0 0 0 ∧ Below w.heap.size w wx ∧ wx.heap.size = w.heap.size + 2
theorem mkAt_new (w : World) (K : Int) : MkAt w K 0 ((w.alloc (.cells #[.int .i64 0, .string ⟨#[]⟩, .slice none 0 0, .slice none 0 0, .int .i64 0] 25)).alloc (.cells #[.int .i64 K, .string ⟨#[]⟩, .slice none 0 0, .slice none 0 0, .int .i64 0] 25)) := by
  refine ⟨?_, ?_, ((Below.refl _ w).alloc (Nat.le_refl _) _).alloc (by simp) _, by simp⟩
  · have := ItBox.new (w.alloc (itc 0 [] none 0 0 none 0 0 0)) K [] none 0 0 none 0 0 0
    rwa [World.size_alloc] at this
  · exact ItBox.later (ItBox.new w 0 [] none 0 0 none 0 0 0) ((Below.refl _ _).alloc (Nat.le_refl _) _)
theorem mkAt_exp (w : World) (K x : Int) : MkAt w K x ((w.alloc (.cells #[.int .i64 0, .string ⟨#[]⟩, .slice none 0 0, .slice none 0 0, .int .i64 0] 25)).alloc (.cells #[.int .i64 K, .string ⟨#[]⟩, .slice none 0 0, .slice none 0 0, .int .i64 x] 25)) := by
  refine ⟨?_, ?_, ((Below.refl _ w).alloc (Nat.le_refl _) _).alloc (by simp) _, by simp⟩
  · have := ItBox.new (w.alloc (itc 0 [] none 0 0 none 0 0 0)) K [] none 0 0 none 0 0 x
    rwa [World.size_alloc] at this
  · exact ItBox.later (ItBox.new w 0 [] none 0 0 none 0 0 0) ((Below.refl _ _).alloc (Nat.le_refl _) _)

/-- what the rounds have made: a text. -/
def MkS (wx : World) (B : Nat) (e : Int) (s : List UInt8) (wr : World) : Prop := ItBox wr B 1 s none 0 0 none 0 0 e ∧ Keeps (fun j => j ≠ B) wx wr
/-- fields. -/
def MkF (wx : World) (B : Nat) (e : Int) (f : List (List UInt8 × List UInt8)) (wr : World) : Prop :=
  ∃ a c, ItBox wr B 2 [] a f.length c none 0 0 e ∧ wr.ownsRow wx.heap.size 37 2 (.slice a f.length c) f.length (fcells f) ∧ Keeps (fun j => j ≠ B) wx wr
/-- texts. -/
def MkL (wx : World) (B : Nat) (K e : Int) (l : List (List UInt8)) (wr : World) : Prop :=
  ∃ a c, ItBox wr B K [] none 0 0 a l.length c e ∧ wr.ownsRow wx.heap.size 9 1 (.slice a l.length c) l.length (wcells l) ∧ Keeps (fun j => j ≠ B) wx wr ∧ (l = [] → a = none ∧ c = 0)
theorem mk_below {w wx wr : World} {B : Nat} (hB : B = w.heap.size + 1) (hb : Below w.heap.size w wx) (hz : wx.heap.size = w.heap.size + 2) (h : Keeps (fun j => j ≠ B) wx wr) : Below w.heap.size w wr :=
  hb.trans (h.below (by omega) fun j hj => by omega)
theorem MkS.below {w wx wr : World} {e : Int} {s : List UInt8} (hb : Below w.heap.size w wx) (hz : wx.heap.size = w.heap.size + 2) (h : MkS wx (w.heap.size + 1) e s wr) : Below w.heap.size w wr := mk_below rfl hb hz h.2
theorem MkF.below {w wx wr : World} {e : Int} {f : List (List UInt8 × List UInt8)} (hb : Below w.heap.size w wx) (hz : wx.heap.size = w.heap.size + 2) (h : MkF wx (w.heap.size + 1) e f wr) : Below w.heap.size w wr := by
  obtain ⟨_, _, _, _, h⟩ := h
  exact mk_below rfl hb hz h
theorem MkL.below {w wx wr : World} {K e : Int} {l : List (List UInt8)} (hb : Below w.heap.size w wx) (hz : wx.heap.size = w.heap.size + 2) (h : MkL wx (w.heap.size + 1) K e l wr) : Below w.heap.size w wr := by
  obtain ⟨_, _, _, _, h, _⟩ := h
  exact mk_below rfl hb hz h
theorem cell_next9 {A B : World} {p : Addr} {v : Value} (h : A.cell? p = some v) (hb : Below A.heap.size A B) : B.cell? p = some v := (hb.cell (World.block_lt_of_cell? A p h)).trans h
theorem new9 (w : World) (x : Value) : (w.alloc (.cells #[x] 5)).drew.cell? ⟨w.heap.size, 0, none⟩ = some x := by
  rw [World.cell?_drew]
  exact World.news_of_block (World.alloc_heap_new w _) 0 _ rfl
theorem new9b (w : World) (x : Value) : (w.alloc (.cells #[x] 5)).cell? ⟨w.heap.size, 0, none⟩ = some x := World.news_of_block (World.alloc_heap_new w _) 0 _ rfl

theorem ItBox.set1 {w : World} {B : Nat} {k : Int} {s : List UInt8} {aF : Option Addr} {nF cF : Nat} {aL : Option Addr} {nL cL : Nat} {x : Int} (h : ItBox w B k s aF nF cF aL nL cL x) (s' : List UInt8) :
    ItBox (w.setCell ⟨B, 1, none⟩ (.string ⟨s'.toArray⟩)) B k s' aF nF cF aL nL cL x := by
  unfold ItBox at h ⊢
  simp [World.setCell, Array.getElem?_modify, h]
theorem mk_keeps {wx wr wc : World} {B : Nat} (hk : Keeps (fun j => j ≠ B) wx wr) (hb : Keeps (fun j => j < wx.heap.size) wr wc) (p : Addr) (hp : p.block = B) (v : Value) : Keeps (fun j => j ≠ B) wx (wc.setCell p v) := by
  have a1 : Keeps (fun j => j ≠ B ∧ j < wx.heap.size) wx wr := hk.mono fun _ _ h => h.1
  have a2 : Keeps (fun j => j ≠ B ∧ j < wx.heap.size) wr wc := hb.mono fun _ _ h => h.2
  exact ((a1.trans a2).setCell (p := p) (.inr fun h => h.1 hp) v).mono fun j hj h => ⟨h, hj⟩
theorem mkS_step {wx wr wc : World} {B : Nat} {e : Int} {s : List UInt8} (h : MkS wx B e s wr) (hb : Below wr.heap.size wr wc) (s' : List UInt8) : MkS wx B e s' (wc.setCell ⟨B, 1, none⟩ (.string ⟨s'.toArray⟩)) :=
  ⟨ItBox.set1 (ItBox.later h.1 hb) s', mk_keeps h.2 (Keeps.of_below hb fun j hj _ => hj) _ rfl _⟩
theorem mkF_step {wx wr wc : World} {B : Nat} {e : Int} {f f' : List (List UInt8 × List UInt8)} {a : Option Addr} {n c : Nat} {a' : Option Addr} {c' base : Nat} (hk : Keeps (fun j => j ≠ B) wx wr) (hb : Keeps (fun j => j < wx.heap.size) wr wc) (hx : ItBox wc B 2 [] a n c none 0 0 e) (hB : B < wx.heap.size) (hbase : wx.heap.size ≤ base)
    (ho : wc.ownsRow base 37 2 (.slice a' f'.length c') f'.length (fcells f')) : MkF wx B e f' (wc.setCell ⟨B, 2, none⟩ (.slice a' f'.length c')) :=
  ⟨a', c', hx.set2 _ _ _, owns_base (owns_kept (S := fun j => j ≠ B) ho ((Keeps.refl _ wc).setCell (.inr fun h => h rfl) _) fun g hg => by have := (ho.lt g hg).1; omega) hbase, mk_keeps hk hb _ rfl _⟩
theorem mkL_step {wx wr wc : World} {B : Nat} {K e : Int} {l' : List (List UInt8)} {a : Option Addr} {n c : Nat} {a' : Option Addr} {c' base : Nat} (hk : Keeps (fun j => j ≠ B) wx wr) (hb : Keeps (fun j => j < wx.heap.size) wr wc) (hx : ItBox wc B K [] none 0 0 a n c e) (hB : B < wx.heap.size) (hbase : wx.heap.size ≤ base)
    (ho : wc.ownsRow base 9 1 (.slice a' l'.length c') l'.length (wcells l')) (hne : l' ≠ []) : MkL wx B K e l' (wc.setCell ⟨B, 3, none⟩ (.slice a' l'.length c')) :=
  ⟨a', c', hx.set3 _ _ _, owns_base (owns_kept (S := fun j => j ≠ B) ho ((Keeps.refl _ wc).setCell (.inr fun h => h rfl) _) fun g hg => by have := (ho.lt g hg).1; omega) hbase, mk_keeps hk hb _ rfl _, fun h => absurd h hne⟩

theorem byte_bd (b : UInt8) : 0 ≤ (b.toNat : Int) ∧ (b.toNat : Int) ≤ 255 := by
  have := UInt8.toNat_lt b
  omega
/-- the text of a number. -/
theorem sOf_str (b : UInt8) (y : Int) (h : (b.toNat : Int) = y) : (⟨#[UInt8.ofNat (97 + y % 5).toNat]⟩ : ByteArray) ++ ⟨(Dig.dec (y % 3)).toArray⟩ = ⟨(Mk.sOf b).toArray⟩ := by
  rw [str_cons]
  unfold Mk.sOf
  have h1 : (97 + y % 5).toNat = 97 + b.toNat % 5 := by omega
  have h2 : y % 3 = ((b.toNat % 3 : Nat) : Int) := by omega
  rw [h1, h2]
theorem dec3_len (y : Int) : (Dig.dec (y % 3)).length ≤ 1 := by
  have h : y % 3 = 0 ∨ y % 3 = 1 ∨ y % 3 = 2 := by omega
  rcases h with h | h | h <;> rw [h] <;> decide +kernel
theorem vOf_str (b : UInt8) (y : Int) (h : (b.toNat : Int) = y) : Dig.dec (y - 100) = Mk.vOf b := by rw [← h]; rfl
theorem take_snoc8 {r : List UInt8} {q : Nat} (h : q < r.length) : r.take (q + 1) = r.take q ++ [r.getD q 0] := by
  rw [take_succ_getD (d := (0 : UInt8)) h]
theorem take_all8 {r : List UInt8} {q gk : Nat} (hq : q ≤ r.length) (h8 : q + gk = 8) (hgo : ¬ (q < r.length ∧ q < 8)) : r.take q = r.take 8 := by
  rcases Nat.lt_or_ge q 8 with h | h
  · have : q = r.length := by omega
    rw [this, List.take_length, List.take_of_length_le (by omega)]
  · rw [show q = 8 by omega]
theorem cell2_next {A B : World} {p p2 : Addr} {v v2 : Value} (h : A.cell? p = some v ∧ A.cell? p2 = some v2) (hb : Below A.heap.size A B) : B.cell? p = some v ∧ B.cell? p2 = some v2 := ⟨cell_next9 h.1 hb, cell_next9 h.2 hb⟩
theorem stIt_far {w : World} {B g : Nat} (h : g ≠ B) (k : Int) (s : List UInt8) (aF : Option Addr) (nF cF : Nat) (aL : Option Addr) (nL cL : Nat) (x : Int) : (stIt w B k s aF nF cF aL nL cL x).heap[g]? = w.heap[g]? := by
  unfold stIt
  rw [Below.heap_setCell _ _ _ _ h, Below.heap_setCell _ _ _ _ h, Below.heap_setCell _ _ _ _ h, Below.heap_setCell _ _ _ _ h, Below.heap_setCell _ _ _ _ h]
end Go.Proofs.Ytdnonginlbjcoaa
