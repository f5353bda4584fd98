/- Package moment: all that it answers. -/
import Derived.Test.YtipohfaapiiopaaDoorYpar
import Derived.Test.YtipohfaapiiopaaDoorYon
import Derived.Test.YtipohfaapiiopaaDoorYprt
namespace Go.Proofs.YtipohfaapiiopaaDoor
open Go.RowKit
theorem ck_same (s : ByteArray) : (match clockRes s with | none => (0, 0, 6) | some x => (x.1, x.2, 0) : Int × Int × Int) = ckRes s := rfl
theorem off_same (s : ByteArray) : offR (spanRes s) = ofRes s := by unfold offR ofRes; cases spanRes s <;> rfl
/-- where the tables of names and lengths are laid -/
theorem momentA : MomentP False Mom where
  mono := fun _ _ T h => T.mono h
  month := fun s hs W T => monP s hs W T
  weekday := fun s hs W T => wdP s hs W T
  clock := fun s hs W _ => clockMP s hs W
  offset := fun s hs W _ => by rw [← off_same]; exact offsetMP s (by omega) W
  parse := fun A n c l W hS hz T => parseMP A n c l W hS hz T
  print := fun h => h.elim
  time := fun h => h.elim
  right := fun x _ W _ => rightMP x W
  on := fun x y _ _ W T => onMP x y W T.lens
  local_ := fun x y _ _ W T => localMP x y W T.lens
/-- where the letters and the library's powers of ten are laid besides -/
theorem momentB : MomentP True MomP where
  mono := fun _ _ T h => T.mono h
  month := fun s hs W T => monP s hs W T.mom
  weekday := fun s hs W T => wdP s hs W T.mom
  clock := fun s hs W _ => clockMP s hs W
  offset := fun s hs W _ => by rw [← off_same]; exact offsetMP s (by omega) W
  parse := fun A n c l W hS hz T => parseMP A n c l W hS hz T.mom
  print := fun _ x _ W T => printMP x W T
  time := fun _ n hn W T => timeMP n hn W T.pow
  right := fun x _ W _ => rightMP x W
  on := fun x y _ _ W T => onMP x y W T.mom.lens
  local_ := fun x y _ _ W T => localMP x y W T.mom.lens
end Go.Proofs.YtipohfaapiiopaaDoor
