/- Plain mathematics of decimal texts: the digits of a number as bytes, a minus ahead of numbers below 0, and the number that digits make. No program here. -/
namespace Go.Proofs.YtnkmlfbnfndfpaaGreatDoor
/-- what stands behind a minus, and whether there is one -/
def body (l : List UInt8) : List UInt8 := if l.head? = some 45 then l.tail else l
end Go.Proofs.YtnkmlfbnfndfpaaGreatDoor
