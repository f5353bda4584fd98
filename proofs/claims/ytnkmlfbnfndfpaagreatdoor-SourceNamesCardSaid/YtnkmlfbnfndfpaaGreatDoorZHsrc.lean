/- Arguments opened: spots, rules, eras, links, zones, a source. -/
import Derived.Test.YtnkmlfbnfndfpaaGreatDoorZHdata
import Derived.Test.YtnkmlfbnfndfpaaGreatDoorZHrow
namespace Go.Proofs.YtnkmlfbnfndfpaaGreatDoor
open Go.ChangeShapes Go.WideShapes Go.RowKit Go.Deep
set_option linter.unusedSimpArgs false
section
variable {H : Type} {enc : TypeId × Value → H} {W : World} {spare : Nat → Bool} {held : Bool}
/-- a slice's three parts -/
structure Hd where
  a : Option Addr
  n : Nat
  c : Nat
def Hd.val (h : Hd) : Value := .slice h.a h.n h.c
/-- a zone with its eras' slice -/
abbrev Ze : Type := Zn × Hd
def Ze.vals (p : Ze) : List Value := [.string p.1.name, p.2.val]
def eraRows (w : World) (p : Ze) : Prop := Rs 13 w p.2.a p.2.n p.2.c (p.1.eras.map Er.vals)
/-- A source in memory, by the slices of its rules, zones and links. -/
structure SrcV (w : World) (S : Sr) (r z l : Hd) (ze : List Ze) : Prop where
  rules : Rs 11 w r.a r.n r.c (S.rules.map Rl.vals)
  zones : Rs 2 w z.a z.n z.c (ze.map Ze.vals)
  links : Rs 2 w l.a l.n l.c (S.links.map Lk.vals)
  eras : ∀ p ∈ ze, eraRows w p
  all : ze.map (·.1) = S.zones
theorem SrcV.below {w w' : World} {S : Sr} {r z l : Hd} {ze : List Ze} (h : SrcV w S r z l ze) (hb : Below w.heap.size w w') : SrcV w' S r z l ze :=
  ⟨h.rules.below hb, h.zones.below hb, h.links.below hb, fun p hp => (h.eras p hp).below hb, h.all⟩
end
end Go.Proofs.YtnkmlfbnfndfpaaGreatDoor
