/- The laws' replies by numbers, as plain functions. -/
import Derived.Test.YtcplfengdenllaaDoorRpWords
import Derived.Test.YtcplfengdenllaaDoorDig
namespace Go.Proofs.YtcplfengdenllaaDoor

namespace Rp
/-- what Make makes. -/
def mkF : Nat → List UInt8 → List UInt8 → R
  | 0, _, _ => .mk 5 [] 0 []
  | _ + 1, [], _ => .mk 5 [] 0 []
  | f + 1, b :: t, s =>
    if b.toNat % 6 = 0 then .mk 1 (69 :: Dig.dec (b.toNat : Int)) 0 []
    else if b.toNat % 6 = 1 then .mk 2 (69 :: Dig.dec (b.toNat : Int)) 0 []
    else if b.toNat % 6 = 2 then .mk 3 [] (((b.toNat : Int) - 128) * b.toNat * b.toNat * b.toNat) []
    else if b.toNat % 6 = 3 then .mk 4 (s.take (b.toNat / 6)) 0 []
    else if b.toNat % 6 = 4 then .mk 6 [] 0 ((List.range (min (b.toNat / 6 % 5) t.length)).map fun i => mkF f ((t.drop i).take (b.toNat / 30 % 4 + 1)) s)
    else .mk 5 [] 0 []
end Rp

end Go.Proofs.YtcplfengdenllaaDoor
