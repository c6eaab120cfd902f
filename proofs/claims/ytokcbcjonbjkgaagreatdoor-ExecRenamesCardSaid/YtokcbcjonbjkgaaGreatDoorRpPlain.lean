/- Plain mathematics of replies (chapter 3): a reply as a tree, which are valid, their bytes, and what bytes tell. No program in it. -/
import Derived.Test.YtokcbcjonbjkgaaGreatDoorDigPlain
namespace Go.Proofs.YtokcbcjonbjkgaaGreatDoor
namespace Rp

/-- a reply: kind, text, number, elements. -/
inductive R where
  | mk (k : Int) (s : List UInt8) (n : Int) (l : List R)

namespace R
def k : R → Int | mk k _ _ _ => k
def s : R → List UInt8 | mk _ s _ _ => s
def n : R → Int | mk _ _ n _ => n
def l : R → List R | mk _ _ _ l => l
end R

/-- what a walk sees of a reply: kind, text, number, how many elements. -/
structure H where
  k : Int
  s : List UInt8
  n : Int
  m : Nat

def head : R → H | .mk k s n l => ⟨k, s, n, l.length⟩

mutual
/-- a reply and all within it, each with how many arrays it is in. -/
def heads (lev : Nat) : R → List (H × Nat)
  | .mk k s n l => (⟨k, s, n, l.length⟩, lev) :: headsL (lev + 1) l
def headsL (lev : Nat) : List R → List (H × Nat)
  | [] => []
  | r :: l => heads lev r ++ headsL lev l
end

/-- no byte 13 or 10. -/
def plainB (s : List UInt8) : Bool := s.all fun b => b != 13 && b != 10

/-- may a reply stand so, but for its elements? -/
def fitsB (h : H) : Bool :=
  if h.k = 1 ∨ h.k = 2 then decide (h.s.length ≤ 512) && plainB h.s && decide (h.n = 0) && decide (h.m = 0)
  else if h.k = 3 then decide (h.s = []) && decide (h.m = 0)
  else if h.k = 4 then decide (h.s.length ≤ 1048576) && decide (h.n = 0) && decide (h.m = 0)
  else if h.k = 5 then decide (h.s = []) && decide (h.n = 0) && decide (h.m = 0)
  else if h.k = 6 then decide (h.s = []) && decide (h.n = 0) && decide (h.m ≤ 65536)
  else false

/-- a part on its level. -/
def okB (p : H × Nat) : Bool := fitsB p.1 && !(decide (p.1.k = 6) && decide (8 ≤ p.2))

def mayB (r : R) : Bool := (heads 0 r).all okB

def crlf : List UInt8 := [13, 10]

/-- what stands ahead of the elements. -/
def own (h : H) : List UInt8 :=
  (if h.k = 1 then 43 :: h.s
  else if h.k = 2 then 45 :: h.s
  else if h.k = 3 then 58 :: Dig.dec h.n
  else if h.k = 4 then 36 :: (Dig.dec h.s.length ++ crlf ++ h.s)
  else if h.k = 5 then 36 :: Dig.dec (-1)
  else if h.k = 6 then 42 :: Dig.dec h.m
  else []) ++ crlf

mutual
/-- the bytes of a reply. -/
def enc : R → List UInt8
  | .mk k s n l => own ⟨k, s, n, l.length⟩ ++ encL l
def encL : List R → List UInt8
  | [] => []
  | r :: l => enc r ++ encL l
end

def putB (r : R) : List UInt8 := if mayB r then enc r else []

/-- what is read: something and the rest, or an error. -/
inductive Out (α : Type) where
  | ok (a : α) (rest : List UInt8)
  | err (e : Int)

/-- a line's end, and what it ends. -/
def endP {α : Type} (a : α) : List UInt8 → Out α
  | [] => .err 6
  | x :: r => if x = 13 then (match r with | [] => .err 6 | y :: t => if y = 10 then .ok a t else .err 5) else .err 5

def isD (x : UInt8) : Bool := decide (48 ≤ x.toNat) && decide (x.toNat ≤ 57)

/-- the value of digits. -/
def val (l : List UInt8) : Nat := l.foldl (fun u x => 10 * u + (x.toNat - 48)) 0

/-- are these the digits of a number at most so great? -/
def good (neg : Bool) (most : Nat) (ds : List UInt8) : Bool :=
  (decide (ds.length ≤ 1) || decide (ds.head? ≠ some 48)) && !(neg && decide (ds.head? = some 48)) && decide (val ds ≤ most)

/-- a number from -lo to hi, and a line's end. -/
def numP (lo hi : Nat) (bs : List UInt8) : Out Int :=
  let neg := decide (bs.head? = some 45)
  let body := if neg then bs.drop 1 else bs
  let ds := body.takeWhile isD
  let most := if neg then lo else hi
  if neg && decide (lo = 0) then .err 5
  else if !good neg most ds then .err 5
  else if ds.length = body.length then .err 6
  else if ds = [] then .err 5
  else endP (if neg then -(val ds : Int) else (val ds : Int)) (body.drop ds.length)

/-- a text up to a line's end. -/
def lineP (bs : List UInt8) : Out (List UInt8) :=
  let run := bs.takeWhile fun b => b != 13 && b != 10
  if 512 < run.length then .err 5 else endP run (bs.drop run.length)

def Out.map {α β : Type} (f : α → β) : Out α → Out β
  | .ok a r => .ok (f a) r
  | .err e => .err e

def Out.bind {α β : Type} (o : Out α) (f : α → List UInt8 → Out β) : Out β :=
  match o with
  | .ok a r => f a r
  | .err e => .err e

def textP (n : Nat) (bs : List UInt8) : Out (List UInt8) := if bs.length < n then .err 6 else endP (bs.take n) (bs.drop n)

def bulkP (bs : List UInt8) : Out R := (numP 1 1048576 bs).bind fun n r => if n < 0 then .ok (.mk 5 [] 0 []) r else (textP n.toNat r).map fun s => .mk 4 s 0 []

/-- so many, one behind the other. -/
def manyP (f : List UInt8 → Out R) : Nat → List UInt8 → Out (List R)
  | 0, bs => .ok [] bs
  | n + 1, bs => (f bs).bind fun r t => (manyP f n t).map fun l => r :: l

/-- a reply, its arrays read by A. -/
def byMark (A : List UInt8 → Out R) : List UInt8 → Out R
  | [] => .err 6
  | x :: r =>
    if x = 43 then (lineP r).map fun s => .mk 1 s 0 []
    else if x = 45 then (lineP r).map fun s => .mk 2 s 0 []
    else if x = 58 then (numP 9223372036854775808 9223372036854775807 r).map fun n => .mk 3 [] n []
    else if x = 36 then bulkP r
    else if x = 42 then A r
    else .err 5

def arrP (f : List UInt8 → Out R) (bs : List UInt8) : Out R := (numP 0 65536 bs).bind fun n r => (manyP f n.toNat r).map fun l => .mk 6 [] 0 l

/-- a reply, so deep at most. -/
def replyP : Nat → List UInt8 → Out R
  | 0 => byMark fun _ => .err 5
  | d + 1 => byMark (arrP (replyP d))

/-- a reply at a place. -/
def getP (bs : List UInt8) (at_ : Int) : Out R := if at_ < 0 ∨ (bs.length : Int) < at_ then .err 1 else replyP 8 (bs.drop at_.toNat)

end Rp
end Go.Proofs.YtokcbcjonbjkgaaGreatDoor
