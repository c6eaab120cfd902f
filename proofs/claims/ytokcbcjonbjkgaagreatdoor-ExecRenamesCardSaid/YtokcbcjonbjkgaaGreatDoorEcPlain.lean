/- What the program's exec keeps while it does a command, as plain data: the items of the command's keys, before and by now. No program in it. -/
import Derived.Test.YtokcbcjonbjkgaaGreatDoorDbBase
import Derived.Test.YtokcbcjonbjkgaaGreatDoorRpPlain
import Derived.Test.YtokcbcjonbjkgaaGreatDoorCmPlain
import Derived.Test.YtokcbcjonbjkgaaGreatDoorTxPlain
namespace Go.Proofs.YtokcbcjonbjkgaaGreatDoor
set_option linter.unusedVariables false
namespace Ec
abbrev Bs := List UInt8
abbrev M := Bs → Option It.I
/-- no item. -/
def z0 : It.I := ⟨0, [], [], [], 0⟩
/-- a key has another item, or none. -/
def upd (f : M) (k : Bs) (v : Option It.I) : M := fun x => if x = k then v else f x
/-- each key once, in order. -/
def once : List Bs → List Bs → List Bs
  | acc, [] => acc
  | acc, k :: l => if k ∈ acc then once acc l else once (acc ++ [k]) l
/-- what the keys have in the space. -/
def before (db : List Db.P) (ks : List Bs) : M := fun k => if k ∈ ks then Db.raw db k else none
/-- what of it is alive. -/
def live (now : Int) (f : M) : M := fun k => (f k).bind fun i => if It.aliveB i now then some i else none
/-- the items by now; was one given that is not valid? -/
structure St where
  it : M
  inv : Bool
/-- is the item to be taken away: a hash, a list, a set without elements? -/
def noneB (i : It.I) : Bool := decide (i.kind ≠ 1) && decide (i.f = []) && decide (i.l = [])
def give (s : St) (k : Bs) (i : It.I) : St := if noneB i then ⟨upd s.it k none, s.inv⟩ else ⟨upd s.it k (some i), s.inv || !It.mayB i⟩
/-- what a key has, or an empty item, of the rule's kind. -/
def held (kind : Int) (s : St) (k : Bs) : It.I := { (s.it k).getD z0 with kind := kind }
def giveText (s : St) (k v : Bs) (x : Int) : St := give s k ⟨1, v, [], [], x⟩
/-- replies. -/
def num (n : Int) : Rp.R := .mk 3 [] n []
def txt (s : Bs) : Rp.R := .mk 4 s 0 []
def nilR : Rp.R := .mk 5 [] 0 []
def bulk (s : Bs) (has : Bool) : Rp.R := if has then txt s else nilR
def bulks (l : List Bs) : Rp.R := .mk 6 [] 0 (l.map txt)
def simple (s : Bs) : Rp.R := .mk 1 s 0 []
def errR : Rp.R := .mk 2 [69, 82, 82] 0 []
def wrongR : Rp.R := .mk 2 [87, 82, 79, 78, 71, 84, 89, 80, 69] 0 []
def done : Rp.R := simple [79, 75]
def yes (b : Bool) : Rp.R := if b then num 1 else num 0
/-- do the items fit the rule's kind? -/
def fits (kind : Int) (ks : List Bs) (f : M) : Bool := ks.all fun k => match f k with | some i => decide (kind = 0 ∨ i.kind = kind) | none => true
/-- the numbers of the words at these places, if all are some. -/
def readN (ws : List Bs) : List Nat → Option (List Int)
  | [] => some []
  | j :: l => if (Tx.numS (ws.getD j [])).2 then (readN ws l).map fun r => (Tx.numS (ws.getD j [])).1 :: r else none
/-- the effects. -/
def effects (bf it : M) (ks : List Bs) : List Db.E :=
  ks.filterMap fun k => if It.sameB ((bf k).getD z0) ((it k).getD z0) then none else some (match it k with | some i => ⟨k, false, i⟩ | none => ⟨k, true, z0⟩)
/-- what a command does: the words, the time, the kind, the numbers, the keys. -/
abbrev Do := List Bs → Int → Int → List Int → List Bs → St → Rp.R × St
/-- a command: its rule's kind, its numbers' places, what it does. -/
def follow (kind : Int) (ids : List Nat) (d : Do) (ws : List Bs) (now : Int) (ks : List Bs) (f : M) : Rp.R × M :=
  if fits kind ks f then
    match readN ws ids with
    | none => (errR, f)
    | some ns => if (d ws now kind ns ks ⟨f, false⟩).2.inv then (errR, (d ws now kind ns ks ⟨f, false⟩).2.it) else ((d ws now kind ns ks ⟨f, false⟩).1, (d ws now kind ns ks ⟨f, false⟩).2.it)
  else (wrongR, f)
def exec (kind : Int) (ids : List Nat) (d : Do) (db : List Db.P) (ws : List Bs) (now : Int) : Rp.R × List Db.E :=
  let ks := once [] (Cm.keysOf ws)
  let bf := before db ks
  let r := follow kind ids d ws now ks (live now bf)
  if r.1.k = 2 then (r.1, []) else (r.1, effects bf r.2 ks)
end Ec
end Go.Proofs.YtokcbcjonbjkgaaGreatDoor
