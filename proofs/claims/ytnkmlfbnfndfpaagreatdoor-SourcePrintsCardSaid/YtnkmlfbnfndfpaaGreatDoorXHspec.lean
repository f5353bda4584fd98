/- Stage 10's laws: what package source answers (SourceP, under a premise Q on memory that calls keep). -/
import Derived.Test.YtnkmlfbnfndfpaaGreatDoorXGj
import Derived.Test.YtnkmlfbnfndfpaaGreatDoorXHsrc
import Derived.Test.YtnkmlfbnfndfpaaGreatDoorXGq
set_option maxRecDepth 100000
set_option maxHeartbeats 64000000
namespace Go.Proofs.YtnkmlfbnfndfpaaGreatDoor
open Go.RowKit
def RetSrcF (w : World) (r : Sr × Flt) (e : Ending) (w' : World) : Prop := ∃ (a b c : Hd) (ze : List Ze), e = .returned (.tuple #[.agg #[a.val, b.val, c.val], r.2.val]) ∧ SrcV w' r.1 a b c ze ∧ Below w.heap.size w w'
def RetTE (w : World) (r : ByteArray × Int) (e : Ending) (w' : World) : Prop := e = .returned (.tuple #[.string r.1, .int .i64 r.2]) ∧ Below w.heap.size w w'
noncomputable def okSr (S : Sr) : Bool := @decide S.ok (Classical.propDecidable _)
theorem okSr_yes {S : Sr} (h : S.ok) : okSr S = true := @decide_eq_true _ (Classical.propDecidable _) h
theorem okSr_no {S : Sr} (h : ¬ S.ok) : okSr S = false := @decide_eq_false _ (Classical.propDecidable _) h
noncomputable def printRes (S : Sr) : ByteArray × Int := if okSr S = true then (if 100000 < (srcText S).size then (⟨#[]⟩, 12) else (srcText S, 0)) else (⟨#[]⟩, 1)
structure ReadP (Q : World → Prop) : Prop where
  mono : ∀ (w W : World), Q w → Below w.heap.size w W → Q W
  parse : ∀ (s : ByteArray) (_ : s.size ≤ maxLen) (W : World), Q W → Calls Tryz.prog 9 #[.string s] W (RetSrcF W (srcRes s))
  set_ : ∀ (s : ByteArray) (_ : s.size ≤ maxLen) (W : World), Q W → Calls Tryz.prog 18 #[.string s] W (RetV W (.bool (setB s)))
  place : ∀ (s : ByteArray) (_ : s.size ≤ maxLen) (W : World), Q W → Calls Tryz.prog 20 #[.string s] W (RetV W (.bool (placeB s)))
structure SourceP (Q : World → Prop) : Prop extends ReadP Q where
  right : ∀ (S : Sr) (a b c : Hd) (ze : List Ze) (W : World), SrcV W S a b c ze → S.in64 → Q W → Calls Tryz.prog 16 #[.agg #[a.val, b.val, c.val]] W (RetV W (.bool (okSr S)))
  print : ∀ (S : Sr) (a b c : Hd) (ze : List Ze) (W : World), SrcV W S a b c ze → S.in64 → Q W → Calls Tryz.prog 14 #[.agg #[a.val, b.val, c.val]] W (RetTE W (printRes S))
def aliveA : ByteArray := ⟨#[82, 117, 108, 101, 32, 85, 83, 32, 49, 57, 54, 55, 32, 50, 48, 48, 54, 32, 45, 32, 79, 99, 116, 32, 108, 97, 115, 116, 83, 117, 110, 32, 50, 58, 48, 48, 32, 48, 32, 83, 10, 90, 111, 110, 101, 32, 65, 32, 49, 58, 48, 48, 32, 85, 83, 32, 67, 37, 115, 84, 10]⟩
def aliveB : ByteArray := ⟨#[90, 111, 110, 101, 32, 65, 32, 50, 52, 32, 45, 32, 88]⟩
def aliveS : Sr := ⟨[⟨⟨#[85, 83]⟩, 1967, 2006, ⟨10, 1, 7, 0, 7200, 0⟩, 0, ⟨#[83]⟩⟩], [⟨⟨#[65]⟩, [⟨3600, 2, 0, ⟨#[85, 83]⟩, ⟨#[67, 37, 115, 84]⟩, false, 0, .zero⟩]⟩], []⟩
theorem ah2 : srcRes aliveB = (.none, (11, 1, 7)) := by kernel_rfl
theorem ah3 : srcRes aliveA = (aliveS, (0, 0, 0)) := by kernel_rfl
theorem ah4 : setB ⟨#[97]⟩ = true := by kernel_rfl
theorem ah5 : placeB ⟨#[65, 47, 66]⟩ = true := by kernel_rfl
end Go.Proofs.YtnkmlfbnfndfpaaGreatDoor
