/- Stage 8's laws: what package fields answers (FieldsP), and that it is alive. -/
import Derived.Test.YtnojlbeiknkooaaSwords
import Derived.Test.YtnojlbeiknkooaaSjoin
import Derived.Test.YtnojlbeiknkooaaSlines
namespace Go.Proofs.Ytnojlbeiknkooaa
open Go.RowKit
/-- What a call that answers a text and an error's number, and may make blocks, leaves. -/
def RetSB (w : World) (r : ByteArray × Int) (e : Ending) (w' : World) : Prop := e = .returned (.tuple #[.string r.1, .int .i64 r.2]) ∧ Below w.heap.size w w'
/-- what package fields answers -/
structure FieldsP : Prop where
  lines : ∀ (s : ByteArray), s.size ≤ 1000000 → ∀ w, Calls Try.prog 10 #[.string s] w (RetSs w (lnsFrom s 0 0))
  split : ∀ (s : ByteArray), s.size ≤ maxLen → ∀ r, splitRes s = (r, 0, 0) → ∀ w, Calls Try.prog 12 #[.string s] w (RetFld w (r, 0, 0))
  join : ∀ (A : Option Addr) (n c : Nat) (l : List ByteArray) (w : World), Ss w A n c l → smallTexts l → Calls Try.prog 16 #[.slice A n c] w (RetSB w (joinRes l))
theorem al1 : splitRes ⟨#[82, 117, 108, 101, 9, 34, 97, 32, 98, 34, 32, 120, 35, 121]⟩ = ([(⟨#[82, 117, 108, 101]⟩, 0), (⟨#[97, 32, 98]⟩, 5), (⟨#[120]⟩, 11)], 0, 0) := by kernel_rfl
theorem al2 : joinRes [⟨#[97]⟩, ⟨#[98, 32, 99]⟩] = (⟨#[97, 32, 34, 98, 32, 99, 34]⟩, 0) := by kernel_rfl
theorem al3 : lnsFrom ⟨#[97, 10, 10, 98]⟩ 0 0 = [⟨#[97]⟩, ⟨#[]⟩, ⟨#[98]⟩] := by kernel_rfl
theorem Ss.two (w : World) (a b : ByteArray) (t : TypeId) : Ss (w.alloc (.cells #[.string a, .string b] t)) (some ⟨w.heap.size, 0, none⟩) 2 2 [a, b] := by
  refine ⟨rfl, Nat.le_refl _, by simp [maxLen], fun _ => ⟨_, _, rfl, by simp, fun j hj => ?_⟩⟩
  have hj2 : j < 2 := hj
  match j, hj2 with
  | 0, _ => simp
  | 1, _ => simp
set_option maxRecDepth 100000 in
set_option maxHeartbeats 8000000 in
theorem alive8 (C : FieldsP) (w : World) : Calls Try.prog 8 #[] w (RetV w (.bool true)) := by
  have SP := Lib.hid (fun W => (C.split _ (by decide) _ al1 W : Calls Try.prog 12 #[.string ⟨#[82, 117, 108, 101, 9, 34, 97, 32, 98, 34, 32, 120, 35, 121]⟩] W (RetFld W ([(⟨#[82, 117, 108, 101]⟩, 0), (⟨#[97, 32, 98]⟩, 5), (⟨#[120]⟩, 11)], 0, 0))))
  have JN := Lib.hid (fun (A : Option Addr) (n c : Nat) W ha => (al2 ▸ C.join A n c [⟨#[97]⟩, ⟨#[98, 32, 99]⟩] W ha ⟨by decide, by decide⟩ : Calls Try.prog 16 #[.slice A n c] W (RetSB W (⟨#[97, 32, 34, 98, 32, 99, 34]⟩, 0))))
  have LI := Lib.hid (fun W => (al3 ▸ C.lines _ (by decide) W : Calls Try.prog 10 #[.string ⟨#[97, 10, 10, 98]⟩] W (RetSs W [⟨#[97]⟩, ⟨#[]⟩, ⟨#[98]⟩])))
  clear C
  go_enter Try.func8, Try.ntmps8
  go_wp2_with fail
  refine (SP.out _).mono ?_
  rintro e w1 ⟨A, n, c, rfl, hF, hb⟩
  obtain rfl : (3 : Nat) = n := hF.len
  obtain ⟨g, o, rfl, hg, ce⟩ := hF.cells (by omega)
  obtain ⟨x1, y1⟩ := ce 1 (by decide)
  obtain ⟨x2, y2⟩ := ce 2 (by decide)
  clear ce
  have sz := hb.size
  go_upto_region 2 with (fail)
  go_wp2_with fail
  refine (JN.out _ _ _ _ (Ss.two _ _ _ _)).mono ?_
  rintro e w2 ⟨rfl, hb2⟩
  have h12 : Below w1.heap.size w1 w2 := ((Below.refl _ w1).alloc (Nat.le_refl _) _).trans (hb2.mono (by simp))
  have h02 : Below w.heap.size w w2 := hb.trans (h12.mono sz)
  replace x1 := (h12.cell (p := ⟨g, o + 2 * 1, none⟩) hg).trans x1
  replace y1 := (h12.cell (p := ⟨g, o + 2 * 1 + 1, none⟩) hg).trans y1
  replace x2 := (h12.cell (p := ⟨g, o + 2 * 2, none⟩) hg).trans x2
  replace y2 := (h12.cell (p := ⟨g, o + 2 * 2 + 1, none⟩) hg).trans y2
  have sz2 := h02.size
  clear hb2 h12 hb sz
  clear hF
  go_upto_region 3 with (fail)
  go_wp2_with fail
  refine (LI.out _).mono ?_
  rintro e w3 ⟨A3, n3, c3, rfl, hS, hb3⟩
  obtain rfl : (3 : Nat) = n3 := hS.len
  go_wp2
  go_ret
  exact ⟨rfl, h02.trans (hb3.mono sz2)⟩
end Go.Proofs.Ytnojlbeiknkooaa
