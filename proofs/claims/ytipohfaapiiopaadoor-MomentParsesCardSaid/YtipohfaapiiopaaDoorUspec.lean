/- Stage 9's laws: what package moment answers (MomentP, under a premise Q on memory that calls keep; what writes, where full holds: it reads tables that the other functions don't). -/
import Derived.Test.YtipohfaapiiopaaDoorUon
import Derived.Test.YtipohfaapiiopaaDoorUpr
import Derived.Test.YtipohfaapiiopaaDoorUopen
namespace Go.Proofs.YtipohfaapiiopaaDoor
open Go.RowKit

/-- seconds, by which clock, the error -/
def ckRes (s : ByteArray) : Int × Int × Int := match clockRes s with | none => (0, 0, 6) | some x => (x.1, x.2, 0)
/-- seconds of less than a day, the error -/
def ofRes (s : ByteArray) : Int × Int := match spanRes s with | none => (0, 6) | some v => if v ≤ -86400 ∨ 86400 ≤ v then (0, 11) else (v, 0)
def RetNNE (w : World) (r : Int × Int × Int) (e : Ending) (w' : World) : Prop := e = .returned (.tuple #[.int .i64 r.1, .int .i64 r.2.1, .int .i64 r.2.2]) ∧ Below w.heap.size w w'
/-- What a call that answers texts and an error's number leaves. -/
def RetTx (w : World) (l : List ByteArray) (x : Int) (e : Ending) (w' : World) : Prop := ∃ A n c, e = .returned (.tuple #[.slice A n c, .int .i64 x]) ∧ Ss w' A n c l ∧ Below w.heap.size w w'
theorem Sp.ok.in64 {x : Sp} (h : x.ok) : x.in64 := by
  unfold Sp.ok at h
  unfold Sp.in64 In64
  omega
/-- what package moment answers -/
structure MomentP (full : Prop) (Q : World → Prop) : Prop where
  mono : ∀ (w W : World), Q w → Below w.heap.size w W → Q W
  month : ∀ (s : ByteArray) (_ : s.size ≤ maxLen) (W : World), Q W → Calls Tryd.prog 10 #[.string s] W (RetNumB W (monthN s) (decide (0 < (monthN s : Int))))
  weekday : ∀ (s : ByteArray) (_ : s.size ≤ maxLen) (W : World), Q W → Calls Tryd.prog 11 #[.string s] W (RetNumB W (dayN s) (decide (0 < (dayN s : Int))))
  clock : ∀ (s : ByteArray) (_ : s.size ≤ 140737488355328) (W : World), Q W → Calls Tryd.prog 15 #[.string s] W (RetNNE W (ckRes s))
  offset : ∀ (s : ByteArray) (_ : s.size ≤ 1000) (W : World), Q W → Calls Tryd.prog 17 #[.string s] W (RetNN W (ofRes s).1 (ofRes s).2)
  parse : ∀ (A : Option Addr) (n c : Nat) (l : List ByteArray) (W : World), Ss W A n c l → (∀ (i : Nat) (h : i < l.length), i < 3 → l[i].size ≤ 1000) → Q W → Calls Tryd.prog 19 #[.slice A n c] W (RetSp W (parseRes l))
  print : full → ∀ (x : Sp) (_ : x.in64) (W : World), Q W → Calls Tryd.prog 21 #[x.val] W (RetTx W (if x.ok then spTexts x else []) (if x.ok then 0 else 1))
  time : full → ∀ (n : Int) (_ : In64 n) (W : World), Q W → Calls Tryd.prog 24 #[.int .i64 n] W (RetV W (.string (timeB n)))
  right : ∀ (x : Sp) (_ : x.in64) (W : World), Q W → Calls Tryd.prog 22 #[x.val] W (RetV W (.bool (decide x.ok)))
  on : ∀ (x : Sp) (y : Int) (_ : x.in64) (_ : In64 y) (W : World), Q W → Calls Tryd.prog 28 #[x.val, .int .i64 y] W (RetNumB W (onN x y) (decide (onOk x y)))
  local_ : ∀ (x : Sp) (y : Int) (_ : x.in64) (_ : In64 y) (W : World), Q W → Calls Tryd.prog 30 #[x.val, .int .i64 y] W (RetNumB W (loN x y) (decide (onOk x y)))
theorem am1 : ckRes ⟨#[50, 58, 48, 48, 115]⟩ = (7200, 1, 0) := by kernel_rfl
theorem am2 : parseRes [⟨#[111, 99, 116]⟩, ⟨#[108, 97, 115, 116, 83, 117, 110]⟩, ⟨#[49, 58, 48, 48, 117]⟩] = (⟨10, 1, 7, 0, 3600, 2⟩, 0, 0) := by kernel_rfl
theorem am3 : onN ⟨10, 1, 7, 0, 3600, 2⟩ 2021 = 18931 := by kernel_rfl
theorem am4 : decide (onOk ⟨10, 1, 7, 0, 3600, 2⟩ 2021) = true := by kernel_rfl
/-- Parse's answer, its spot laid open -/
theorem MomentP.parse6 {full : Prop} {Q : World → Prop} (C : MomentP full Q) {l : List ByteArray} {mo ki wd da ti re k x : Int} (e : parseRes l = (⟨mo, ki, wd, da, ti, re⟩, k, x)) (A : Option Addr) (n c : Nat) (W : World) (ha : Ss W A n c l) (hz : ∀ (i : Nat) (h : i < l.length), i < 3 → l[i].size ≤ 1000) (L : Q W) :
    Calls Tryd.prog 19 #[.slice A n c] W (fun o w' => o = .returned (.tuple #[.agg #[.int .i64 mo, .int .i64 ki, .int .i64 wd, .int .i64 da, .int .i64 ti, .int .i64 re], .int .i64 k, .int .i64 x]) ∧ Below W.heap.size W w') := by
  have h := C.parse A n c l W ha hz L
  rw [e] at h
  exact h
theorem parse6 {l : List ByteArray} {mo ki wd da ti re k x : Int} (e : parseRes l = (⟨mo, ki, wd, da, ti, re⟩, k, x)) (A : Option Addr) (n c : Nat) (W : World) (ha : Ss W A n c l) (hz : ∀ (i : Nat) (h : i < l.length), i < 3 → l[i].size ≤ 1000) :
    Calls Tryd.prog 20 #[.slice A n c] W (fun o w' => o = .returned (.tuple #[.agg #[.int .i64 mo, .int .i64 ki, .int .i64 wd, .int .i64 da, .int .i64 ti, .int .i64 re], .int .i64 k, .int .i64 x]) ∧ Below W.heap.size W w') := by
  have h := parseR A n c l W ha hz
  rw [e] at h
  exact h
end Go.Proofs.YtipohfaapiiopaaDoor
