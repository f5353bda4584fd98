/- Stage 10's laws: what package source answers (SourceP, under a premise Q on memory that calls keep). -/
import Derived.Test.YtnkmlfbnfndfpaaGreatDoorZGj
import Derived.Test.YtnkmlfbnfndfpaaGreatDoorZHsrc
import Derived.Test.YtnkmlfbnfndfpaaGreatDoorZGq
namespace Go.Proofs.YtnkmlfbnfndfpaaGreatDoor
open Go.RowKit
/-- What a call that answers a source and a fault leaves. -/
def RetSrcF (w : World) (r : Sr × Flt) (e : Ending) (w' : World) : Prop := ∃ (a b c : Hd) (ze : List Ze), e = .returned (.tuple #[.agg #[a.val, b.val, c.val], r.2.val]) ∧ SrcV w' r.1 a b c ze ∧ Below w.heap.size w w'
/-- what package source answers that reads -/
structure ReadP (Q : World → Prop) : Prop where
  mono : ∀ (w W : World), Q w → Below w.heap.size w W → Q W
  parse : ∀ (s : ByteArray) (_ : s.size ≤ maxLen) (W : World), Q W → Calls Tryz.prog 9 #[.string s] W (RetSrcF W (srcRes s))
  set_ : ∀ (s : ByteArray) (_ : s.size ≤ maxLen) (W : World), Q W → Calls Tryz.prog 18 #[.string s] W (RetV W (.bool (setB s)))
  place : ∀ (s : ByteArray) (_ : s.size ≤ maxLen) (W : World), Q W → Calls Tryz.prog 20 #[.string s] W (RetV W (.bool (placeB s)))
/-- a fault has an error's number -/
theorem flt_err {s : ByteArray} (h : (srcRes s).2.1 = 0) : (srcRes s).2 = Flt.no := by
  unfold srcRes at h ⊢
  split
  · rename_i c; rw [if_pos c] at h; exact absurd h (by decide)
  · rename_i c
    rw [if_neg c] at h
    split
    · rename_i d; rw [if_pos d] at h; exact absurd h d
    · rename_i d
      rw [if_neg d] at h
      split
      · rename_i t; rw [if_pos t] at h; exact absurd (show (14 : Int) = 0 from h) (by decide)
      · rfl
def aliveA : ByteArray := ⟨#[82, 117, 108, 101, 32, 85, 83, 32, 49, 57, 54, 55, 32, 50, 48, 48, 54, 32, 45, 32, 79, 99, 116, 32, 108, 97, 115, 116, 83, 117, 110, 32, 50, 58, 48, 48, 32, 48, 32, 83, 10, 90, 111, 110, 101, 32, 65, 32, 49, 58, 48, 48, 32, 85, 83, 32, 67, 37, 115, 84, 10]⟩
def aliveB : ByteArray := ⟨#[90, 111, 110, 101, 32, 65, 32, 50, 52, 32, 45, 32, 88]⟩
def aliveS : Sr := ⟨[⟨⟨#[85, 83]⟩, 1967, 2006, ⟨10, 1, 7, 0, 7200, 0⟩, 0, ⟨#[83]⟩⟩], [⟨⟨#[65]⟩, [⟨3600, 2, 0, ⟨#[85, 83]⟩, ⟨#[67, 37, 115, 84]⟩, false, 0, .zero⟩]⟩], []⟩
theorem ah2 : srcRes aliveB = (.none, (11, 1, 7)) := by kernel_rfl
theorem ah3 : srcRes aliveA = (aliveS, (0, 0, 0)) := by kernel_rfl
theorem ah4 : setB ⟨#[97]⟩ = true := by kernel_rfl
theorem ah5 : placeB ⟨#[65, 47, 66]⟩ = true := by kernel_rfl
end Go.Proofs.YtnkmlfbnfndfpaaGreatDoor
