/- The document's answer of layer 9: the day and the moment on which a spot falls. -/
import Derived.Test.YtpbgddoicjjhnaaGreatDoorYGua
import Derived.Test.YtpbgddoicjjhnaaGreatDoorYGc
import Derived.Deep.RegionHeld3
import Derived.BigQuiet
import Derived.Outline
set_option maxRecDepth 100000
set_option maxHeartbeats 64000000
namespace Go.Proofs.YtpbgddoicjjhnaaGreatDoor
open Go.RowKit
def downTo (n wd : Int) : Int := n - (wday n - wd) % 7
def upTo (n wd : Int) : Int := n + (wd - wday n) % 7
theorem downTo_is {n wd : Int} (h : 1 ≤ wd ∧ wd ≤ 7) : (downTo n wd + 3) % 7 + 1 = wd ∧ n - 7 < downTo n wd ∧ downTo n wd ≤ n := by unfold downTo wday; omega
theorem upTo_is {n wd : Int} (h : 1 ≤ wd ∧ wd ≤ 7) : (upTo n wd + 3) % 7 + 1 = wd ∧ n ≤ upTo n wd ∧ upTo n wd < n + 7 := by unfold upTo wday; omega
def onDay (x : Sp) (y : Int) : Int :=
  if x.ki = 0 then numD y x.mo 1 + x.da - 1 else if x.ki = 1 then downTo (numD y x.mo 1 + lenM y x.mo - 1) x.wd
  else if x.ki = 2 then upTo (numD y x.mo 1 + x.da - 1) x.wd else downTo (numD y x.mo 1 + x.da - 1) x.wd
def onOk (x : Sp) (y : Int) : Prop := x.ok ∧ (1 ≤ y ∧ y ≤ 300000) ∧ okD y x.mo 1 ∧ onDay x y ≤ 100000000
instance (x : Sp) (y : Int) : Decidable (onOk x y) := by unfold onOk; infer_instance
def onN (x : Sp) (y : Int) : Int := if onOk x y then onDay x y else 0
def loN (x : Sp) (y : Int) : Int := if onOk x y then onDay x y * 86400 + x.ti else 0
theorem onDay_in {x : Sp} {y : Int} (h : onOk x y) : -10000000 ≤ onDay x y := by
  obtain ⟨h1, h2, h3, _⟩ := h
  have h4 := jan_bound (y := 1) (by decide) (by decide)
  have h5 := (num_year h3.1).1
  have h6 := jan_le (a := 1) (b := y) h2.1
  have h7 := lenM_range (y := y) h3.1.1 h3.1.2.1
  have j1 : jan 1 = -719162 := by decide
  have h8 := @downTo_is (numD y x.mo 1 + lenM y x.mo - 1) x.wd
  have h9 := @downTo_is (numD y x.mo 1 + x.da - 1) x.wd
  have h10 := @upTo_is (numD y x.mo 1 + x.da - 1) x.wd
  unfold Sp.ok at h1
  unfold onDay
  split
  · omega
  · split
    · omega
    · split <;> omega
end Go.Proofs.YtpbgddoicjjhnaaGreatDoor
