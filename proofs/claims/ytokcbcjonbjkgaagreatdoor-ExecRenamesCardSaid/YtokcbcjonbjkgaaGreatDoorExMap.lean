/- A map from keys to items in memory, told by a function; what the map's operations do to it (what package exec does to its maps). -/
import Derived.Test.YtokcbcjonbjkgaaGreatDoorDbBase
import Derived.Maps.OwnSet
import Derived.Maps.RangeWalk
namespace Go.Proofs.YtokcbcjonbjkgaaGreatDoor
open Go.RowKit Go.Shelf
set_option linter.unusedVariables false

/-- how an item in the map reads: as itself. -/
def heldI (v : Value) : Option (DataW Value × List MemPlace) := some (.held v, [])
theorem heldI_inv {v : Value} {d : DataW Value} {ps : List MemPlace} (h : heldI v = some (d, ps)) : d = .held v := by
  unfold heldI at h
  injection h with h
  injection h with h1 h2
  exact h1.symm
theorem helI_inj {a b : Value} (h : (DataW.held a : DataW Value) = .held b) : a = b := by injection h
theorem exKey_of (key : List UInt8) (h : key.length ≤ 1000000) : keyOf Tryz.prog 9 (.string ⟨key.toArray⟩) = some (.string key) := by
  have := Go.WideMaps.keyOf_string_mk (P := Tryz.prog) (k := 9) Tryz.underlying9 (s := ⟨key.toArray⟩) (by unfold maxLen; simp [ByteArray.size]; omega)
  simpa using this

/-- the value of an item that is none. -/
def zeroIv : Value := .agg #[.int .i64 0, .string ⟨#[]⟩, .slice none 0 0, .slice none 0 0, .int .i64 0]
/-- what the function says of D. -/
def TellsI (f : List UInt8 → Option Value) (D : DataW Value) : Prop :=
  ∀ key, Maps.has D (.string key) = (f key).isSome ∧ ∀ z, D.atKey (.string key) z = (match f key with | some v => .held v | none => z)
/-- block b is a map of at most n entries that holds what f says. -/
def MapI (w : World) (b n : Nat) (f : List UInt8 → Option Value) : Prop := ∃ D, w.ownsMap Tryz.prog 9 heldI b n D ∧ TellsI f D

theorem MapI.lt {w : World} {b n : Nat} {f : List UInt8 → Option Value} (h : MapI w b n f) : b < w.heap.size := by
  obtain ⟨D, h, -⟩ := h
  exact h.lt
theorem MapI.heap {w w' : World} {b n : Nat} {f : List UInt8 → Option Value} (h : MapI w b n f) (hb : w'.heap[b]? = w.heap[b]?) : MapI w' b n f := by
  obtain ⟨D, ⟨es, clock, hg, F, hs, hD⟩, h2⟩ := h
  exact ⟨D, ⟨es, clock, hb.trans hg, F, hs, hD⟩, h2⟩
theorem MapI.later {w w' : World} {b n : Nat} {f : List UInt8 → Option Value} (h : MapI w b n f) (hb : Below w.heap.size w w') : MapI w' b n f := h.heap (hb.block b h.lt)
theorem MapI.alloc {w : World} {b n : Nat} {f : List UInt8 → Option Value} (h : MapI w b n f) (o : Obj) : MapI (w.alloc o) b n f := h.later ((Below.refl _ w).alloc (Nat.le_refl _) o)
theorem MapI.drew {w : World} {b n : Nat} {f : List UInt8 → Option Value} (h : MapI w b n f) : MapI w.drew b n f := h
theorem MapI.setCell {w : World} {b n : Nat} {f : List UInt8 → Option Value} (h : MapI w b n f) {p : Addr} (hp : b ≠ p.block) (v : Value) : MapI (w.setCell p v) b n f := by
  obtain ⟨D, h1, h2⟩ := h
  exact ⟨D, h1.setCell hp v, h2⟩
theorem MapI.made (w : World) : MapI (w.alloc (.map #[] 0)) w.heap.size 0 (fun _ => none) :=
  ⟨_, World.ownsMap_made w _ _ _, fun key => ⟨rfl, fun z => rfl⟩⟩
theorem MapI.ext {w : World} {b n : Nat} {f g : List UInt8 → Option Value} (h : MapI w b n f) (e : ∀ k, f k = g k) : MapI w b n g := by
  rw [show g = f from funext fun k => (e k).symm]
  exact h

/-- what a key tells. -/
theorem MapI.look {w : World} {b n : Nat} {f : List UInt8 → Option Value} (h : MapI w b n f) (key : List UInt8) (hl : key.length ≤ 1000000) :
    (Instr.lookup 82 (.map (some b)) (.string ⟨key.toArray⟩) false).run Tryz.prog w = .ok ((f key).getD zeroIv) w := by
  obtain ⟨D, h1, h2⟩ := h
  obtain ⟨v, ps, hrun, hv⟩ := World.ownsMap.lookup h1 (Maps.string_keyed Tryz.underlying9) Tryz.underlying82 (Tryz.zeroValue38 w) (zd := .held zeroIv) (zp := []) rfl (exKey_of key hl)
  have h3 := heldI_inv hv
  rw [(h2 key).2] at h3
  refine hrun.trans (congrArg (fun x => Result.ok x w) ?_)
  cases hf : f key with
  | none => rw [hf] at h3; exact (helI_inj h3).symm
  | some u => rw [hf] at h3; exact (helI_inj h3).symm
theorem MapI.lookOk {w : World} {b n : Nat} {f : List UInt8 → Option Value} (h : MapI w b n f) (key : List UInt8) (hl : key.length ≤ 1000000) :
    (Instr.lookup 82 (.map (some b)) (.string ⟨key.toArray⟩) true).run Tryz.prog w = .ok (.tuple #[(f key).getD zeroIv, .bool (f key).isSome]) w := by
  obtain ⟨D, h1, h2⟩ := h
  obtain ⟨v, ps, hrun, hv⟩ := World.ownsMap.look_ok h1 (Maps.string_keyed Tryz.underlying9) Tryz.underlying82 (Tryz.zeroValue38 w) (zd := .held zeroIv) (zp := []) rfl (exKey_of key hl)
  have h3 := heldI_inv hv
  rw [(h2 key).2] at h3
  rw [(h2 key).1] at hrun
  refine hrun.trans (congrArg (fun x => Result.ok (Value.tuple #[x, Value.bool (f key).isSome]) w) ?_)
  cases hf : f key with
  | none => rw [hf] at h3; exact (helI_inj h3).symm
  | some u => rw [hf] at h3; exact (helI_inj h3).symm

/-- a key has another value, or none. -/
def updI (f : List UInt8 → Option Value) (key : List UInt8) (v : Option Value) (k : List UInt8) : Option Value := if k = key then v else f k
theorem TellsI.put {f : List UInt8 → Option Value} {D : DataW Value} (h : TellsI f D) (hD : Maps.IsMap D) (key : List UInt8) (v : Value) : TellsI (updI f key (some v)) (D.put (.string key) (.held v)) := by
  intro k
  unfold updI
  by_cases hk : k = key
  · subst hk
    simp only [if_true]
    exact ⟨Maps.has_put_same hD (show WideAt.IsKeyLit (.string k) from trivial) _, fun z => Maps.atKey_put_same hD (show WideAt.IsKeyLit (.string k) from trivial) _ _⟩
  · have hne : (Lit.string k) ≠ .string key := fun e => hk (by injection e)
    simp only [if_neg hk]
    exact ⟨(Maps.has_put_other hne _).trans (h k).1, fun z => (Maps.atKey_put_other hne _ _).trans ((h k).2 z)⟩
theorem TellsI.del {f : List UInt8 → Option Value} {D : DataW Value} (h : TellsI f D) (key : List UInt8) : TellsI (updI f key none) (D.del (.string key)) := by
  intro k
  unfold updI
  by_cases hk : k = key
  · subst hk
    simp only [if_true]
    exact ⟨Maps.has_del_same, fun z => Maps.atKey_del_same _⟩
  · have hne : (Lit.string k) ≠ .string key := fun e => hk (by injection e)
    simp only [if_neg hk]
    exact ⟨(Maps.has_del_other hne).trans (h k).1, fun z => (Maps.atKey_del_other hne _).trans ((h k).2 z)⟩
/-- 'm[k] = v'. -/
theorem wpList_putI {ops : Array Oper} {rest : List Oper} {o : Oper} {a : Act} {Q : Exit → Act → World → Prop} (w : World) (hg : o.guard = none) (m x v : Operand) (hop : o.op = Op.mapUpdate 82 m x v) (b n : Nat) (f : List UInt8 → Option Value)
    (hm : a.eval m = .map (some b)) (h : MapI w b n f) (hn : n ≤ 1000000) (key : List UInt8) (val : Value) (hx : a.eval x = .string ⟨key.toArray⟩) (hv : a.eval v = val) (hl : key.length ≤ 1000000)
    (hK : ∀ w', MapI w' b (n + 1) (updI f key (some val)) → w.mapTurned w' b → wpList Tryz.prog ops Q rest (a.put o.dst undef) w') :
    wpList Tryz.prog ops Q (o :: rest) a w := by
  obtain ⟨D, h1, h2⟩ := h
  refine wpList_mapUpdate_in w hg m x v 82 hop 9 38 (Maps.string_keyed Tryz.underlying9) Tryz.underlying82 heldI b n D hm h1 (by unfold maxLen; omega) _ val (.string key) hx hv (exKey_of key hl) (.held val) [] rfl ?_
  intro w' k1 k2
  exact hK w' ⟨_, k1, h2.put h1.isMap key val⟩ k2
/-- 'delete(m, k)'. -/
theorem wpList_delI {ops : Array Oper} {rest : List Oper} {o : Oper} {a : Act} {Q : Exit → Act → World → Prop} (w : World) (hg : o.guard = none) (m x : Operand) (hop : o.op = Op.call { callee := Callee.builtin Builtin.delete, args := #[m, x], argTypes := #[82, 9] }) (b n : Nat) (f : List UInt8 → Option Value)
    (hm : a.eval m = .map (some b)) (h : MapI w b n f) (key : List UInt8) (hx : a.eval x = .string ⟨key.toArray⟩) (hl : key.length ≤ 1000000)
    (hK : ∀ w', MapI w' b n (updI f key none) → w.mapTurned w' b → wpList Tryz.prog ops Q rest (a.put o.dst (.tuple #[])) w') :
    wpList Tryz.prog ops Q (o :: rest) a w := by
  obtain ⟨D, h1, h2⟩ := h
  refine wpList_delete_own w hg m x 82 9 hop 38 (Maps.string_keyed Tryz.underlying9) Tryz.underlying82 heldI b n D hm h1 _ (.string key) hx (exKey_of key hl) ?_
  intro w' k1 k2
  exact hK w' ⟨_, k1, h2.del key⟩ k2
theorem MapTurned.keeps {w w' : World} {b : Nat} (h : w.mapTurned w' b) : Keeps (fun k => k ≠ b) w w' := Keeps.of_grown h.grown fun r e hne => by injection e with e; exact hne e.symm
/-- 'm[k] = v', alone. -/
theorem wp_putI {Q : Exit → Act → World → Prop} {o : Oper} {a : Act} {K : Act → World → Prop} (w : World) (m x v : Operand) (hop : o.op = Op.mapUpdate 82 m x v) (b n : Nat) (f : List UInt8 → Option Value)
    (hm : a.eval m = .map (some b)) (h : MapI w b n f) (hn : n ≤ 1000000) (key : List UInt8) (val : Value) (hx : a.eval x = .string ⟨key.toArray⟩) (hv : a.eval v = val) (hl : key.length ≤ 1000000)
    (hK : ∀ w', MapI w' b (n + 1) (updI f key (some val)) → Keeps (fun k => k ≠ b) w w' → K (a.put o.dst undef) w') : Oper.wp Tryz.prog o a w K Q := by
  obtain ⟨D, h1, h2⟩ := h
  obtain ⟨w', hrun, r1, r2⟩ := h1.store (Maps.string_keyed Tryz.underlying9) Tryz.underlying82 (show n < maxLen by unfold maxLen; omega) (exKey_of key hl) (show heldI val = some (.held val, []) from rfl)
  unfold Oper.wp
  simp [execOp, hop, hm, hx, hv, hrun, Result.andThen]
  exact hK w' ⟨_, r1, h2.put h1.isMap key val⟩ (MapTurned.keeps r2)
end Go.Proofs.YtokcbcjonbjkgaaGreatDoor
