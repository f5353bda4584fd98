/- Plain mathematics of decimal texts: the digits of a number as bytes, a minus ahead of numbers below 0, and the number that digits make. No program here. -/
set_option maxRecDepth 100000
set_option maxHeartbeats 64000000
namespace Go.Proofs.YtmhpnmlgfdomkaaGreatDoor
def dec (n : Nat) : List UInt8 := if n < 10 then [UInt8.ofNat (48 + n)] else dec (n / 10) ++ [UInt8.ofNat (48 + n % 10)]
termination_by n
decreasing_by omega
def body (l : List UInt8) : List UInt8 := if l.head? = some 45 then l.tail else l
end Go.Proofs.YtmhpnmlgfdomkaaGreatDoor
