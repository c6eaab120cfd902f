/- item.Copy at an item with the places of its lists. DERIVED: THE SHELF's CONTRACTS AT THIS DUMP, IN PLAIN WORDS (tools/lay-plain.mjs out of 'TryShelfI.lean', which tools/lay-shelf.mjs wrote): THE SAME DECLARATIONS UNDER THE SAME NAMES: 'import', 'namespace', 'open', 'def', 'theorem' AND NOTHING ELSE: no command of the shelf's: FOR A HAND-IN. Each laying: the table of numbers ('.._ren') and one theorem, a field a fact of the dump's own or the kernel's comparison; each contract: ONE APPLICATION. Spaces and effects, plainly: what effects make of a space whose keys ascend. No program in it. A map of effects by their keys; its keys, sorted (11.1). What the program's Apply makes, key by key; the sorted keys of its map, and what it holds (11.1). -/
import Derived.Test.YtihleddhjmejoaaMD08
import Derived.Test.YtihleddhjmejoaaMD27
import Derived.Shelf.SlGeneric
import Derived.Shelf.SlIter.Nil
import Derived.Shelf.SortM.Plain
import Derived.Shelf.SortM.SortNone
import Derived.Ground.GgzProg
import Derived.Ground.SlgmProg
import Derived.Test.YtihleddhjmejoaaProg
import Derived.Test.YtihleddhjmejoaaMD26
import Derived.Test.YtihleddhjmejoaaMD05
import Derived.Test.YtihleddhjmejoaaMD24
import Derived.Maps.OwnIn
import Derived.Maps.Views
import Derived.Sort.KeysCollected
namespace Go.Proofs.Ytihleddhjmejoaa
open Go.RowKit Go.Shelf
set_option linter.unusedVariables false

theorem copy_li (k x : Int) (s : List UInt8) (aF : Option Addr) (fs : List (List UInt8 × List UInt8)) (cF : Nat) (aL : Option Addr) (ws : List (List UInt8)) (cL : Nat) (w : World) (hok : (⟨k, s, aF, fs, cF, aL, ws, cL, x⟩ : Li).Ok w) (hsm : (⟨k, s, fs, ws, x⟩ : It.I).Sm) :
    Calls Try.prog 70 #[.agg #[.int .i64 k, .string ⟨s.toArray⟩, .slice aF fs.length cF, .slice aL ws.length cL, .int .i64 x]] w fun e W => ∃ bF dF bL dL, e = .returned (.agg #[.int .i64 k, .string ⟨s.toArray⟩, .slice bF fs.length dF, .slice bL ws.length dL, .int .i64 x]) ∧ (⟨k, s, bF, fs, dF, bL, ws, dL, x⟩ : Li).Ok W ∧ Below w.heap.size w W ∧ ∀ o : Option Nat, (∀ g, o = some g → g < w.heap.size) → (⟨k, s, bF, fs, dF, bL, ws, dL, x⟩ : Li).Far o :=
  (copy_any k x s aF cF fs aL cL ws w hok.2.1 hok.2.2.1 hsm.2.1 hsm.2.2.1 hsm.1 hsm.2.2.2.1 hsm.2.2.2.2).mono fun e W h => h.li hsm.1 hsm.2.2.2.1 hsm.2.2.2.2

end Go.Proofs.Ytihleddhjmejoaa
namespace Go.Proofs
open Go.Shelf
def Try.it_keys_ren : Go.Shelf.Ren := ⟨fun | 7 => 49 | 10 => 65 | n => n, fun | 23 => 88 | 26 => 9 | 3 => 61 | 28 => 91 | 0 => 0 | 27 => 90 | 33 => 109 | 4 => 4 | n => n, fun | n => n⟩
theorem Try.it_keys : Go.Proofs.SlLaysZ.n7 Try.prog Try.it_keys_ren := {
  mixed := by kernel_rfl
  f7 := ⟨Try.f49.name, by decide, Try.func49.trans (congrArg some (by kernel_rfl))⟩
  f10 := ⟨Try.f65.name, by decide, Try.func65.trans (congrArg some (by kernel_rfl))⟩
  t0 := Try.underlying0
  a0 := Try.isAgg0
  z0 := Try.sizeOf0
  v0 := Try.zeroValue0
  t4 := Try.underlying4
  a4 := Try.isAgg4
  z4 := Try.sizeOf4
  v4 := Try.zeroValue4
  t23 := Try.underlying88
  a23 := Try.isAgg88
  z23 := Try.sizeOf88
  v23 := Try.zeroValue88
  t26 := Try.underlying9
  a26 := Try.isAgg9
  z26 := Try.sizeOf9
  v26 := Try.zeroValue9
  t27 := Try.underlying90
  a27 := Try.isAgg90
  z27 := Try.sizeOf90
  v27 := Try.zeroValue90
  t28 := Try.underlying91
  a28 := Try.isAgg91
  z28 := Try.sizeOf91
  v28 := Try.zeroValue91
  t33 := Try.underlying109
  a33 := Try.isAgg109
  z33 := Try.sizeOf109
  v33 := Try.zeroValue109 }
def Try.it_sorted_ren : Go.Shelf.Ren := ⟨fun | 6 => 48 | 8 => 63 | 9 => 64 | 11 => 75 | 13 => 77 | 12 => 76 | 23 => 91 | 24 => 92 | 14 => 82 | 15 => 83 | 16 => 84 | 17 => 85 | 18 => 86 | 19 => 87 | 20 => 88 | 21 => 89 | 22 => 90 | 25 => 94 | 26 => 95 | 27 => 96 | 28 => 97 | 29 => 98 | 30 => 99 | 31 => 100 | n => n, fun | 26 => 9 | 28 => 91 | 24 => 57 | 0 => 0 | 3 => 3 | 37 => 122 | 48 => 132 | 50 => 117 | 4 => 4 | 40 => 125 | 39 => 124 | 45 => 93 | 5 => 5 | 9 => 9 | 51 => 135 | 55 => 139 | 57 => 141 | 58 => 142 | 33 => 109 | n => n, fun | n => n⟩
theorem Try.it_sorted : Go.Proofs.SlLaysZ.n6 Try.prog Try.it_sorted_ren := {
  mixed := by kernel_rfl
  f6 := ⟨Try.f48.name, by decide, Try.func48.trans (congrArg some (by kernel_rfl))⟩
  f8 := ⟨Try.f63.name, by decide, Try.func63.trans (congrArg some (by kernel_rfl))⟩
  f11 := ⟨Try.f75.name, by decide, Try.func75.trans (congrArg some (by kernel_rfl))⟩
  t0 := Try.underlying0
  a0 := Try.isAgg0
  z0 := Try.sizeOf0
  v0 := Try.zeroValue0
  t24 := Try.underlying57
  a24 := Try.isAgg57
  z24 := Try.sizeOf57
  v24 := Try.zeroValue57
  t26 := Try.underlying9
  a26 := Try.isAgg9
  z26 := Try.sizeOf9
  v26 := Try.zeroValue9
  t28 := Try.underlying91
  a28 := Try.isAgg91
  z28 := Try.sizeOf91
  v28 := Try.zeroValue91
  i26 := by kernel_rfl }
def Try.it_sort_ren : Go.Shelf.Ren := ⟨fun | 6 => 64 | 8 => 77 | 9 => 76 | 19 => 91 | 20 => 92 | 21 => 82 | 22 => 83 | 23 => 84 | 24 => 85 | 25 => 86 | 26 => 87 | 27 => 88 | 28 => 89 | 29 => 90 | 36 => 94 | 31 => 95 | 32 => 96 | 37 => 97 | 38 => 98 | 39 => 99 | 41 => 100 | n => n, fun | 27 => 57 | 29 => 9 | 3 => 3 | 32 => 122 | 26 => 57 | 0 => 0 | 44 => 132 | 46 => 117 | 4 => 4 | 36 => 125 | 35 => 124 | 41 => 93 | 5 => 5 | 9 => 9 | 53 => 135 | 57 => 139 | 63 => 141 | 64 => 142 | n => n, fun | n => n⟩
theorem Try.it_sort : Go.Proofs.SlLaysM.n6 Try.prog Try.it_sort_ren := {
  mixed := by kernel_rfl
  f6 := ⟨Try.f64.name, by decide, Try.func64.trans (congrArg some (by kernel_rfl))⟩
  f8 := Try.func77.trans (congrArg some (by kernel_rfl))
  f9 := ⟨Try.f76.name, by decide, Try.func76.trans (congrArg some (by kernel_rfl))⟩
  f19 := Try.func91.trans (congrArg some (by kernel_rfl))
  f20 := Try.func92.trans (congrArg some (by kernel_rfl))
  f21 := ⟨Try.f82.name, by decide, Try.func82.trans (congrArg some (by kernel_rfl))⟩
  f22 := ⟨Try.f83.name, by decide, Try.func83.trans (congrArg some (by kernel_rfl))⟩
  f23 := ⟨Try.f84.name, by decide, Try.func84.trans (congrArg some (by kernel_rfl))⟩
  f24 := ⟨Try.f85.name, by decide, Try.func85.trans (congrArg some (by kernel_rfl))⟩
  f25 := ⟨Try.f86.name, by decide, Try.func86.trans (congrArg some (by kernel_rfl))⟩
  f26 := ⟨Try.f87.name, by decide, Try.func87.trans (congrArg some (by kernel_rfl))⟩
  f27 := ⟨Try.f88.name, by decide, Try.func88.trans (congrArg some (by kernel_rfl))⟩
  f28 := ⟨Try.f89.name, by decide, Try.func89.trans (congrArg some (by kernel_rfl))⟩
  f29 := ⟨Try.f90.name, by decide, Try.func90.trans (congrArg some (by kernel_rfl))⟩
  f31 := Try.func95.trans (congrArg some (by kernel_rfl))
  f32 := Try.func96.trans (congrArg some (by kernel_rfl))
  f36 := ⟨Try.f94.name, by decide, Try.func94.trans (congrArg some (by kernel_rfl))⟩
  f37 := ⟨Try.f97.name, by decide, Try.func97.trans (congrArg some (by kernel_rfl))⟩
  f38 := ⟨Try.f98.name, by decide, Try.func98.trans (congrArg some (by kernel_rfl))⟩
  f39 := ⟨Try.f99.name, by decide, Try.func99.trans (congrArg some (by kernel_rfl))⟩
  f41 := ⟨Try.f100.name, by decide, Try.func100.trans (congrArg some (by kernel_rfl))⟩
  t0 := Try.underlying0
  a0 := Try.isAgg0
  z0 := Try.sizeOf0
  v0 := Try.zeroValue0
  t3 := Try.underlying3
  a3 := Try.isAgg3
  z3 := Try.sizeOf3
  v3 := Try.zeroValue3
  t4 := Try.underlying4
  a4 := Try.isAgg4
  z4 := Try.sizeOf4
  v4 := Try.zeroValue4
  t5 := Try.underlying5
  a5 := Try.isAgg5
  z5 := Try.sizeOf5
  v5 := Try.zeroValue5
  t9 := Try.underlying9
  a9 := Try.isAgg9
  z9 := Try.sizeOf9
  v9 := Try.zeroValue9
  t26 := Try.underlying57
  a26 := Try.isAgg57
  z26 := Try.sizeOf57
  v26 := Try.zeroValue57
  t27 := Try.underlying57
  a27 := Try.isAgg57
  z27 := Try.sizeOf57
  v27 := Try.zeroValue57
  t29 := Try.underlying9
  a29 := Try.isAgg9
  z29 := Try.sizeOf9
  v29 := Try.zeroValue9
  t32 := Try.underlying122
  a32 := Try.isAgg122
  z32 := Try.sizeOf122
  v32 := Try.zeroValue122
  t35 := Try.underlying124
  a35 := Try.isAgg124
  z35 := Try.sizeOf124
  v35 := Try.zeroValue124
  t36 := Try.underlying125
  a36 := Try.isAgg125
  z36 := Try.sizeOf125
  v36 := Try.zeroValue125
  t41 := Try.underlying93
  a41 := Try.isAgg93
  z41 := Try.sizeOf93
  v41 := Try.zeroValue93
  t44 := Try.underlying132
  a44 := Try.isAgg132
  z44 := Try.sizeOf132
  v44 := Try.zeroValue132
  t46 := Try.underlying117
  a46 := Try.isAgg117
  z46 := Try.sizeOf117
  v46 := Try.zeroValue117
  t53 := Try.underlying135
  a53 := Try.isAgg135
  z53 := Try.sizeOf135
  v53 := Try.zeroValue135
  t57 := Try.underlying139
  a57 := Try.isAgg139
  z57 := Try.sizeOf139
  v57 := Try.zeroValue139
  t63 := Try.underlying141
  a63 := Try.isAgg141
  z63 := Try.sizeOf141
  v63 := Try.zeroValue141
  t64 := Try.underlying142
  a64 := Try.isAgg142
  z64 := Try.sizeOf142
  v64 := Try.zeroValue142 }
end Go.Proofs
namespace Go.Proofs.Ytihleddhjmejoaa
open Go.RowKit Go.Maps Go.Sort Go.Shelf
set_option linter.unusedVariables false

theorem sortsI (m : Nat) : AnyZ.SortsIn Try.prog Try.it_sorted_ren Fence.wide m :=
  ⟨fun blk off cap ss W hH hblk hsz => callsIn_wide.2 (AnyM.slices_Sort_string Try.it_sort blk off cap ss W hH hblk hsz),
   fun p cap W => callsIn_wide.2 (AnyM.slices_Sort_string_none Try.it_sort p cap W)⟩
theorem mapKeys_any (mb : Option Nat) (W : World) : Calls Try.prog 49 #[.map mb] W fun e w' => e = .returned (.func (.func 65) #[] #[.pointer (some ⟨W.heap.size, 0, none⟩)]) ∧ w' = W.alloc (.cells #[.map mb] 88) :=
  callsIn_wide.1 (AnyZ.keys_in Try.it_keys Fence.wide 5 trivial rfl mb W)

/-- how an effect in the map reads: as itself. -/
def heldR (v : Value) : Option (DataW Value × List MemPlace) := some (.held v, [])
theorem heldR_inv {v : Value} {d : DataW Value} {ps : List MemPlace} (h : heldR v = some (d, ps)) : d = .held v := by
  unfold heldR at h
  injection h with h
  injection h with h1 h2
  exact h1.symm
/-- block b is a map that reads as D. -/
def MapIn (w : World) (b n : Nat) (D : DataW Value) : Prop := w.ownsMap Try.prog 9 heldR b n D

set_option maxHeartbeats 1000000 in
theorem sortedKeys_any (b nn : Nat) (D0 : DataW Value) (w : World) (hown : MapIn w b nn D0) (hn : nn ≤ 1000000) :
    Calls Try.prog 48 #[.func (.func 65) #[] #[.pointer (some ⟨w.heap.size, 0, none⟩)]] (w.alloc (.cells #[.map (some b)] 88)) fun e w' => ∃ (v : Value) (ss : List (List UInt8)), e = .returned v ∧ ss.Perm (strKeys D0) ∧
      w'.ownsRow (w.alloc (.cells #[.map (some b)] 88)).heap.size 9 1 v ss.length ((ss.mergeSort (fun x y => decide (x ≤ y))).map encStr) ∧ (v = .slice none 0 0 ↔ ss = []) ∧ Below (w.alloc (.cells #[.map (some b)] 88)).heap.size (w.alloc (.cells #[.map (some b)] 88)) w' := by
  have hbl := World.ownsMap.lt hown
  have hsz := World.ownsMap.size_le hown
  have hseq : SeqGives Fence.wide 2 Try.prog 65 #[.pointer (some ⟨w.heap.size, 0, none⟩)] encStr (fun ss => ss.Perm (strKeys D0)) (Maps.size D0) (w.alloc (.cells #[.map (some b)] 88)) :=
    AnyZ.keys_gives (ρ := Try.it_keys_ren) { Try.it_keys with } Fence.wide _ trivial rfl (by omega) w.heap.size b nn D0 _ (by simp) (by simp) (by
      obtain ⟨es, clock, hb, Ft, hs, hD⟩ := hown
      exact ⟨es, clock, (Below.heap_alloc _ _ b hbl).trans hb, Ft, hs, hD⟩)
  exact callsIn_wide.1 (AnyZ.sorted_in Try.it_sorted Fence.wide 5 trivial trivial trivial trivial rfl (by omega) (sortsI _) (enters_of Try.func64 (by kernel_rfl) rfl) 65 #[.pointer (some ⟨w.heap.size, 0, none⟩)] trivial (enters_of Try.func65 (by kernel_rfl) rfl) _ _ (by unfold maxLen; omega) (by omega) _ hseq)

/-- the map of effects, the last first. -/
def mapR : List Le → DataW Value
  | [] => .map []
  | e :: r => (mapR r).put (.string e.key) (.held (effV e))
/-- the last effect on a key, the last first. -/
def lastR : List Le → List UInt8 → Option Le
  | [], _ => none
  | e :: r, k => if e.key = k then some e else lastR r k
theorem mapR_is : ∀ r, Maps.IsMap (mapR r)
  | [] => Maps.isMap_empty
  | e :: r => (mapR_is r).put _ _
theorem strKey_is (k : List UInt8) : WideAt.IsKeyLit (.string k) := trivial
theorem str_ne {a b : List UInt8} (h : ¬ a = b) : (Lit.string b) ≠ .string a := fun e => h (by injection e with e; exact e.symm)
theorem mapR_at (k : List UInt8) (z : DataW Value) : ∀ r, (mapR r).atKey (.string k) z = match lastR r k with | some e => .held (effV e) | none => z
  | [] => by
    have : Maps.has (.map [] : DataW Value) (.string k) = false := rfl
    exact Maps.atKey_of_not_has this z
  | e :: r => by
    unfold mapR lastR
    by_cases h : e.key = k
    · subst h
      rw [Maps.atKey_put_same (mapR_is r) (strKey_is _)]
      simp
    · rw [Maps.atKey_put_other (str_ne h), mapR_at k z r, if_neg h]
theorem mapR_has (k : List UInt8) : ∀ r, Maps.has (mapR r) (.string k) = (lastR r k).isSome
  | [] => rfl
  | e :: r => by
    unfold mapR lastR
    by_cases h : e.key = k
    · subst h
      rw [Maps.has_put_same (mapR_is r) (strKey_is _)]
      simp
    · rw [Maps.has_put_other (str_ne h), mapR_has k r, if_neg h]
theorem lastR_key : ∀ {r : List Le} {k : List UInt8} {e : Le}, lastR r k = some e → e ∈ r ∧ e.key = k
  | [], _, _, h => by cases h
  | e0 :: r, k, e, h => by
    unfold lastR at h
    split at h
    · rename_i hk
      injection h with h
      subst h
      exact ⟨List.mem_cons_self .., hk⟩
    · have := lastR_key h
      exact ⟨List.mem_cons_of_mem _ this.1, this.2⟩

/-- the sorted keys of the map: they ascend, and each is an effect's. -/
theorem keys_sorted {w : World} {b n : Nat} {r : List Le} {ss : List (List UInt8)} (hown : MapIn w b n (mapR r)) (hp : ss.Perm (strKeys (mapR r))) :
    (ss.mergeSort (fun x y => decide (x ≤ y))).Pairwise (fun x y => x < y) ∧ (∀ k, k ∈ ss.mergeSort (fun x y => decide (x ≤ y)) ↔ (lastR r k).isSome = true) ∧ ss.length ≤ n := by
  have K : Maps.Keyed Try.prog 9 := Maps.string_keyed Try.underlying9
  have hsz := World.ownsMap.size_le hown
  have hstr : ∀ es, mapR r = .map es → ∀ p ∈ es, ∃ x, p.1 = .string x := fun es he p hp => by
    obtain ⟨es', he', hk⟩ := World.ownsMap.keysOf hown
    rw [he] at he'
    injection he' with he'
    subst he'
    obtain ⟨v, hv⟩ := hk p hp
    obtain ⟨x, -, hx, -⟩ := Maps.keyOf_str Try.underlying9 hv
    exact ⟨x, hx⟩
  obtain ⟨es, he, hpw, -⟩ := World.ownsMap.entries hown K
  have hmem : ∀ k, k ∈ strKeys (mapR r) ↔ (lastR r k).isSome = true := fun k => by
    rw [← mapR_has, he, Maps.has_eq, List.any_eq_true]
    show k ∈ (es.map fun p => strOf p.1) ↔ _
    rw [List.mem_map]
    constructor
    · rintro ⟨p, hp, rfl⟩
      obtain ⟨x, hx⟩ := hstr es he p hp
      refine ⟨p, hp, ?_⟩
      rw [hx]
      simp [strOf, Lit.sameKey]
    · rintro ⟨p, hp, hs⟩
      obtain ⟨x, hx⟩ := hstr es he p hp
      refine ⟨p, hp, ?_⟩
      by_cases h : Lit.string x = .string k
      · rw [hx, h]; rfl
      · rw [hx, Maps.sameKey_ne h] at hs
        cases hs
  have hnd : (strKeys (mapR r)).Nodup := by
    rw [he]
    show (es.map fun p => strOf p.1).Nodup
    refine List.pairwise_map.2 (hpw.imp_of_mem fun {p q} hp' hq' hne e => hne ?_)
    obtain ⟨x, ha⟩ := hstr es he p hp'
    obtain ⟨y, hb⟩ := hstr es he q hq'
    rw [ha, hb] at e ⊢
    exact congrArg _ e
  have tr : ∀ a b c : List UInt8, decide (a ≤ b) = true → decide (b ≤ c) = true → decide (a ≤ c) = true := fun a b c h1 h2 => by simp only [decide_eq_true_eq] at *; exact List.le_trans h1 h2
  have tot : ∀ a b : List UInt8, (decide (a ≤ b) || decide (b ≤ a)) = true := fun a b => by simp only [Bool.or_eq_true, decide_eq_true_eq]; exact List.le_total a b
  have hms := List.mergeSort_perm ss (fun x y => decide (x ≤ y))
  have hnd2 : (ss.mergeSort (fun x y => decide (x ≤ y))).Nodup := ((hms.trans hp).nodup_iff).2 hnd
  refine ⟨?_, fun k => ?_, ?_⟩
  · refine (List.Pairwise.and (List.pairwise_mergeSort tr tot ss) hnd2).imp fun {x y} h => ?_
    have h1 : x ≤ y := by simpa using h.1
    rcases Classical.em (x < y) with h2 | h2
    · exact h2
    · exact absurd (List.le_antisymm h1 (List.not_lt.1 h2)) h.2
  · rw [← hmem, (hms.trans hp).mem_iff]
  · rw [hp.length_eq, he]
    rw [he] at hsz
    simpa [strKeys, Maps.size_eq] using hsz
end Go.Proofs.Ytihleddhjmejoaa
namespace Go.Proofs.Ytihleddhjmejoaa
open Go.RowKit Go.Maps Go.Sort Go.Shelf
set_option linter.unusedVariables false

theorem lastR_find : ∀ (r : List Le) (k : List UInt8), lastR r k = r.find? fun e => decide (e.key = k)
  | [], _ => rfl
  | e :: r, k => by
    unfold lastR
    rw [List.find?_cons, lastR_find r k]
    by_cases h : e.key = k <;> simp [h]
theorem lastE_R (es : List Le) (k : List UInt8) : Db.lastE (es.map Le.e) k = (lastR es.reverse k).map Le.e := by
  unfold Db.lastE
  rw [lastR_find, ← List.map_reverse, List.find?_map]
  rfl
/-- the last effect on a key that has one. -/
def effOf (r : List Le) (k : List UInt8) : Le := (lastR r k).getD Le.zero
theorem effOf_key {r : List Le} {k : List UInt8} (h : (lastR r k).isSome = true) : lastR r k = some (effOf r k) ∧ effOf r k ∈ r ∧ (effOf r k).key = k := by
  obtain ⟨e, he⟩ := Option.isSome_iff_exists.1 h
  have := lastR_key he
  unfold effOf
  rw [he]
  exact ⟨rfl, this.1, this.2⟩
/-- the last effects, by their keys. -/
def effsOf (r : List Le) (ks : List (List UInt8)) : List Db.E := ks.map fun k => (effOf r k).e
theorem effsOf_last {es : List Le} {ks : List (List UInt8)} (hk : ∀ k, k ∈ ks ↔ (lastR es.reverse k).isSome = true) (k : List UInt8) : Db.lastE (effsOf es.reverse ks) k = Db.lastE (es.map Le.e) k := by
  rw [lastE_R]
  unfold Db.lastE effsOf
  cases hf : (List.map (fun k => (effOf es.reverse k).e) ks).reverse.find? fun e => decide (e.key = k) with
  | none =>
    cases hl : lastR es.reverse k with
    | none => rfl
    | some e =>
      have hs : (lastR es.reverse k).isSome = true := by rw [hl]; rfl
      have hm := (hk k).2 hs
      have h1 := List.find?_eq_none.1 hf (effOf es.reverse k).e (List.mem_reverse.2 (List.mem_map.2 ⟨k, hm, rfl⟩))
      have h2 := (effOf_key hs).2.2
      exact absurd (decide_eq_true (show (effOf es.reverse k).e.key = k from h2)) h1
  | some x =>
    have hm := List.mem_of_find?_eq_some hf
    have hx := List.find?_some hf
    rw [List.mem_reverse, List.mem_map] at hm
    obtain ⟨k', hk', rfl⟩ := hm
    have hs := (hk k').1 hk'
    obtain ⟨h1, h2, h3⟩ := effOf_key hs
    have hkk : k' = k := by
      have : (effOf es.reverse k').key = k := of_decide_eq_true hx
      rw [← this, h3]
    subst hkk
    rw [h1]
    rfl

/-- AscL and AscP. -/
theorem AscL.p {ps : List Lp} (h : AscL ps) : Db.AscP (ps.map Lp.p) := by
  unfold Db.AscP
  refine List.pairwise_map.2 (List.pairwise_iff_getElem.2 fun i j hi hj hij => ?_)
  have := h i j hij hj
  rwa [getD_eq hi, getD_eq hj] at this
theorem AscP.l {ps : List Lp} (h : Db.AscP (ps.map Lp.p)) : AscL ps := fun i j hij hj => by
  have := List.pairwise_iff_getElem.1 (List.pairwise_map.1 h) i j (by omega) hj hij
  rw [getD_eq (by omega), getD_eq hj]
  exact this
theorem AscL.drop {ps : List Lp} (h : AscL ps) (k : Nat) : AscL (ps.drop k) := AscP.l (by rw [List.map_drop]; exact List.Pairwise.sublist (List.drop_sublist _ _) h.p)
theorem pkey_at (ps : List Lp) {j : Nat} (hj : j < ps.length) : ((ps.map Lp.p).getD j Db.P.zero).key = (ps.getD j Lp.zero).key := by rw [map_getD Lp.p ps Lp.zero Db.P.zero hj]; rfl
theorem app1_found {rs : List Lp} (h : AscL rs) {e : Db.E} {k : Nat} {b : Bool} (hf : FoundAt rs e.key k b) :
    Db.app1 (rs.map Lp.p) e = (rs.take k).map Lp.p ++ (Db.ins e ++ (if b then (rs.drop k).drop 1 else rs.drop k).map Lp.p) := by
  obtain ⟨h0, h1, h2, h3⟩ := hf
  have := Db.app1_at (e := e) (k := k) (b := b) h.p (by simpa using h0) (fun j hj => by rw [pkey_at rs (by omega)]; exact h1 j hj) (fun j hj hj2 => by rw [List.length_map] at hj2; rw [pkey_at rs hj2]; exact h2 j hj hj2)
    (by
      rw [h3, List.length_map]
      constructor
      · rintro ⟨g1, g2⟩; exact ⟨g1, by rw [pkey_at rs g1]; exact g2⟩
      · rintro ⟨g1, g2⟩; exact ⟨g1, by rw [pkey_at rs g1] at g2; exact g2⟩)
  rw [this, List.map_take]
  congr 2
  cases b <;> simp [List.map_drop]

/-- the walk's state, plainly: what is done, what is left. -/
def StepP (db : List Db.P) (r : List Le) (ks : List (List UInt8)) (n : Nat) (X : List Db.P) (rs : List Lp) : Prop :=
  X ++ rs.map Lp.p = Db.app db (effsOf r (ks.take n)) ∧ (∀ x ∈ X, ∀ k ∈ ks.drop n, x.key < k) ∧ AscL rs
theorem StepP.start {ps : List Lp} (h : AscL ps) (r : List Le) (ks : List (List UInt8)) : StepP (ps.map Lp.p) r ks 0 [] ps := ⟨rfl, by simp, h⟩
theorem StepP.step {db : List Db.P} {r : List Le} {ks : List (List UInt8)} {n : Nat} {X : List Db.P} {rs : List Lp} (h : StepP db r ks n X rs) (hn : n < ks.length) (hks : ks.Pairwise fun x y => x < y) {e : Le} (he : effOf r (ks.getD n []) = e) (hek : e.key = ks.getD n []) {k : Nat} {b : Bool} (hf : FoundAt rs (ks.getD n []) k b) :
    StepP db r ks (n + 1) (X ++ (rs.take k).map Lp.p ++ Db.ins e.e) (if b then (rs.drop k).drop 1 else rs.drop k) := by
  obtain ⟨h1, h2, h3⟩ := h
  have hmem : ks.getD n [] ∈ ks.drop n := by
    rw [getD_eq hn, List.drop_eq_getElem_cons hn]
    exact List.mem_cons_self ..
  have hlt : ∀ k' ∈ ks.drop (n + 1), ks.getD n [] < k' := fun k' hk' => by
    rw [getD_eq hn]
    obtain ⟨j, hj, rfl⟩ := List.getElem_of_mem hk'
    rw [List.length_drop] at hj
    rw [List.getElem_drop]
    exact List.pairwise_iff_getElem.1 hks n (n + 1 + j) hn (by omega) (by omega)
  have hek2 : e.e.key = ks.getD n [] := hek
  have ha := app1_found (e := e.e) h3 (k := k) (b := b) (by rw [hek2]; exact hf)
  refine ⟨?_, ?_, ?_⟩
  · rw [List.append_assoc, List.append_assoc, ← ha, ← Db.app1_behind (fun x hx => by rw [hek2]; exact h2 x hx _ hmem), h1, ← Db.app_snoc]
    congr 1
    unfold effsOf
    rw [take_succ_getD (d := []) hn, List.map_append]
    show _ = _ ++ [(effOf r (ks.getD n [])).e]
    rw [he]
  · intro x hx k' hk'
    have hd : k' ∈ ks.drop n := List.mem_of_mem_drop (i := 1) (by rw [List.drop_drop]; exact hk')
    rcases List.mem_append.1 hx with hx | hx
    · rcases List.mem_append.1 hx with hx | hx
      · exact h2 x hx k' hd
      · rw [List.map_take] at hx
        obtain ⟨j, hj, rfl⟩ := List.getElem_of_mem hx
        rw [List.length_take, List.length_map] at hj
        rw [List.getElem_take, List.getElem_map]
        have := hf.2.1 j (by omega)
        rw [getD_eq (by omega)] at this
        exact Db.lt_tr this (hlt k' hk')
    · rw [(Db.ins_key hx).1]
      show e.e.key < k'
      rw [hek2]
      exact hlt k' hk'
  · cases b
    · exact h3.drop k
    · exact (h3.drop k).drop 1
theorem StepP.fin {ps : List Lp} (hu : AscL ps) {es : List Le} {ks : List (List UInt8)} {X : List Db.P} {rs : List Lp} (h : StepP (ps.map Lp.p) es.reverse ks ks.length X rs) (hk : ∀ k, k ∈ ks ↔ (lastR es.reverse k).isSome = true) :
    X ++ rs.map Lp.p = Db.app (ps.map Lp.p) (es.map Le.e) := by
  rw [h.1, List.take_length]
  exact Db.app_same hu.p fun k => effsOf_last hk k

theorem MapIn.later {w w' : World} {b n : Nat} {D : DataW Value} (h : MapIn w b n D) (hb : Below w.heap.size w w') : MapIn w' b n D := by
  have hlt := World.ownsMap.lt h
  obtain ⟨es, clock, hg, F, hs, hD⟩ := h
  exact ⟨es, clock, (hb.block b hlt).trans hg, F, hs, hD⟩
theorem MapIn.alloc {w : World} {b n : Nat} {D : DataW Value} (h : MapIn w b n D) (o : Obj) : MapIn (w.alloc o) b n D := World.ownsMap.alloc h o
theorem strKey_of (key : List UInt8) (h : key.length ≤ 1000000) : keyOf Try.prog 9 (.string ⟨key.toArray⟩) = some (.string key) := by
  have := Go.WideMaps.keyOf_string_mk (P := Try.prog) (k := 9) Try.underlying9 (s := ⟨key.toArray⟩) (by unfold maxLen; simp [ByteArray.size]; omega)
  simpa using this
theorem held_inj {a b : Value} (h : (DataW.held a : DataW Value) = .held b) : a = b := by injection h
/-- what stands in the map under a key. -/
theorem MapIn.look {w : World} {b n : Nat} {r : List Le} (h : MapIn w b n (mapR r)) {key : List UInt8} (hk : (lastR r key).isSome = true) (hl : key.length ≤ 1000000) :
    (Instr.lookup 88 (.map (some b)) (.string ⟨key.toArray⟩) false).run Try.prog w = .ok (effV (effOf r key)) w := by
  obtain ⟨v, ps, hrun, hv⟩ := World.ownsMap.lookup h (Maps.string_keyed Try.underlying9) Try.underlying88 (Try.zeroValue61 w) (zd := .held (.agg #[.string ⟨#[]⟩, .bool false, .int .i64 0, .string ⟨#[]⟩, .slice none 0 0, .slice none 0 0, .int .i64 0])) (zp := []) rfl (strKey_of key hl)
  have h1 := heldR_inv hv
  have h2 := mapR_at key (.held (.agg #[.string ⟨#[]⟩, .bool false, .int .i64 0, .string ⟨#[]⟩, .slice none 0 0, .slice none 0 0, .int .i64 0])) r
  rw [(effOf_key hk).1] at h2
  have h3 : effV (effOf r key) = v := held_inj (h2.symm.trans h1)
  exact hrun.trans (congrArg (fun x => Result.ok x w) h3.symm)
/-- the sorted keys, as words. -/
theorem keysOf_any (b nn : Nat) (r : List Le) (w : World) (hown : MapIn w b nn (mapR r)) (hn : nn ≤ 1000000) (hl : ∀ e ∈ r, e.key.length ≤ 1000000) :
    Calls Try.prog 48 #[.func (.func 65) #[] #[.pointer (some ⟨w.heap.size, 0, none⟩)]] (w.alloc (.cells #[.map (some b)] 88)) fun e w' => ∃ a c ks, e = .returned (.slice a ks.length c) ∧ Wds w' a c ks ∧ ks.Pairwise (fun x y => x < y) ∧ (∀ k, k ∈ ks ↔ (lastR r k).isSome = true) ∧ ks.length ≤ nn ∧ Below w.heap.size w w' := by
  refine (sortedKeys_any b nn (mapR r) w hown hn).mono ?_
  rintro e w' ⟨v, ss, rfl, hp, hrow, -, hb⟩
  obtain ⟨h1, h2, h3⟩ := keys_sorted hown hp
  have hlen : (ss.mergeSort (fun x y => decide (x ≤ y))).length = ss.length := List.length_mergeSort ss
  rw [← hlen] at hrow
  obtain ⟨a, c, rfl, hw, -⟩ := wds_of_row hrow fun k hk => by
    have := effOf_key ((h2 k).1 hk)
    have := hl _ this.2.1
    rw [(effOf_key ((h2 k).1 hk)).2.2] at this
    omega
  exact ⟨a, c, _, rfl, hw, h1, h2, by omega, ((Below.refl _ w).alloc (Nat.le_refl _) _).trans (hb.mono (by simp))⟩
end Go.Proofs.Ytihleddhjmejoaa
