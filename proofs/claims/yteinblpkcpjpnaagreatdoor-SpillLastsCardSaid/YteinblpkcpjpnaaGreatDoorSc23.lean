/- Part of a chain: CmpM. -/
import Derived.Lib.Hide
/- The order of numbers as Go's cmp tells it. No program here. -/
namespace Go.Proofs.YteinblpkcpjpnaaGreatDoor
def cmpI (x y : Int) : Int := if x < y then -1 else if y < x then 1 else 0
def orI (x y : Int) : Int := if x = 0 then y else x
end Go.Proofs.YteinblpkcpjpnaaGreatDoor
