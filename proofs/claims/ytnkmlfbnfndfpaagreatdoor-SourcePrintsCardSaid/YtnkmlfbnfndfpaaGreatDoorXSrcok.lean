/- Package source: what it answers that reads, under the tables of package moment and the two errors of package strconv. -/
import Derived.Test.YtnkmlfbnfndfpaaGreatDoorXGn
set_option maxRecDepth 100000
set_option maxHeartbeats 64000000
namespace Go.Proofs.YtnkmlfbnfndfpaaGreatDoor
open Go.RowKit
structure SrcQ (w : World) : Prop where
  mom : Mom w
  errs : Errs w
theorem sourceR : ReadP SrcQ :=
  ⟨fun _ _ h hb => ⟨h.mom.mono hb, h.errs.mono hb⟩, fun s hs W h => parseSrcP s hs W h.mom h.errs, fun s hs W _ => (setP s hs W).mono fun _ _ ⟨h1, h2⟩ => ⟨h1, h2 ▸ Below.refl _ _⟩, fun s hs W _ => placeP s hs W⟩
end Go.Proofs.YtnkmlfbnfndfpaaGreatDoor
