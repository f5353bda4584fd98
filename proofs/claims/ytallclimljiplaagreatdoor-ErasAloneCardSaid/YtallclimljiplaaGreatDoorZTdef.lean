/- Layer 12: a name's set, when an era ends, its phase, what a zone tells, as data. No program here. -/
import Derived.Test.YtallclimljiplaaGreatDoorZGea
set_option maxRecDepth 100000
set_option maxHeartbeats 64000000
namespace Go.Proofs.YtallclimljiplaaGreatDoor
open Go.RowKit
def setL (L : List Rl) (n : ByteArray) : List Rl := L.filter (fun x => decide (x.name = n))
theorem setL_mem {L : List Rl} {n : ByteArray} {x : Rl} : x ∈ setL L n ↔ x ∈ L ∧ x.name = n := by
  unfold setL
  rw [List.mem_filter, decide_eq_true_eq]
theorem setL_fit {L : List Rl} (h : fitL L) (n : ByteArray) : fitL (setL L n) := fun x hx => h x (setL_mem.1 hx).1
theorem setL_take {L : List Rl} {n : ByteArray} {i : Nat} {x : Rl} (h : L[i]? = some x) : setL (L.take (i + 1)) n = if x.name = n then setL (L.take i) n ++ [x] else setL (L.take i) n := by
  unfold setL
  rw [List.take_add_one, h, List.filter_append]
  by_cases c : x.name = n
  · rw [if_pos c]; simp [c]
  · rw [if_neg c]; simp [c]
theorem setL_used {L : List Rl} {n : ByteArray} {p : Rl → Bool} (h : ∀ x ∈ L, x.name = n → p x = true) : setL (L.filter p) n = setL L n := by
  unfold setL
  rw [List.filter_filter]
  refine List.filter_congr fun x hx => ?_
  by_cases c : x.name = n
  · simp [c, h x hx c]
  · simp [c]
noncomputable def aheadE (L : List Rl) (x : Er) : Int := if x.kind = 2 then aheadSave (setL L x.rules) (loN x.sp x.year) else x.save
noncomputable def endE (L : List Rl) (x : Er) : Int :=
  if x.sp.re = 2 then loN x.sp x.year else if x.sp.re = 1 then loN x.sp x.year - x.off else loN x.sp x.year - x.off - aheadE L x
noncomputable def savE (L : List Rl) (x : Er) (T : Int) : Int × ByteArray := if x.kind = 2 then forceR (setL L x.rules) x.off T else (x.save, ⟨#[]⟩)
structure Ph where
  off : Int
  save : Int
  abbr : ByteArray
def Ph.zero : Ph := ⟨0, 0, ⟨#[]⟩⟩
def Ph.val (p : Ph) : Value := .agg #[.int .i64 p.off, .int .i64 p.save, .string p.abbr]
noncomputable def phE (abbr : ByteArray → ByteArray → Int → Int → ByteArray) (L : List Rl) (x : Er) (T : Int) : Ph :=
  ⟨x.off + (savE L x T).1, (savE L x T).1, abbr x.fmt (savE L x T).2 (x.off + (savE L x T).1) (savE L x T).1⟩
def holdE (L : List Rl) (x : Er) (T : Int) : Prop := x.til = false ∨ T < endE L x
open Classical in
noncomputable def eraAt (L : List Rl) (T : Int) : List Er → Option Er
  | [] => none
  | x :: r => if holdE L x T then some x else eraAt L T r
theorem eraAt_first {L : List Rl} {T : Int} : ∀ {l : List Er} {i : Nat} {x : Er}, l[i]? = some x → (∀ (k : Nat) (y : Er), k < i → l[k]? = some y → ¬ holdE L y T) → holdE L x T → eraAt L T l = some x
  | [], _, _, h, _, _ => by simp at h
  | y :: r, 0, x, h, _, hx => by
    obtain rfl : y = x := by simpa using h
    unfold eraAt
    rw [if_pos hx]
  | y :: r, i + 1, x, h, hk, hx => by
    unfold eraAt
    rw [if_neg (hk 0 y (by omega) rfl)]
    exact eraAt_first (by simpa using h) (fun k z hk2 hz => hk (k + 1) z (by omega) (by simpa using hz)) hx
theorem eraAt_none {L : List Rl} {T : Int} : ∀ {l : List Er}, (∀ (k : Nat) (y : Er), l[k]? = some y → ¬ holdE L y T) → eraAt L T l = none
  | [], _ => rfl
  | y :: r, h => by
    unfold eraAt
    rw [if_neg (h 0 y rfl)]
    exact eraAt_none fun k z hz => h (k + 1) z (by simpa using hz)
theorem eraAt_alone {L : List Rl} {p : Rl → Bool} {T : Int} : ∀ {l : List Er}, (∀ e ∈ l, ∀ x ∈ L, x.name = e.rules → p x = true) → eraAt (L.filter p) T l = eraAt L T l
  | [], _ => rfl
  | y :: r, h => by
    have e : endE (L.filter p) y = endE L y := by
      unfold endE aheadE
      rw [setL_used (fun x hx hn => h y (List.mem_cons_self ..) x hx hn)]
    have c : holdE (L.filter p) y T ↔ holdE L y T := by unfold holdE; rw [e]
    unfold eraAt
    by_cases k : holdE L y T
    · rw [if_pos k, if_pos (c.2 k)]
    · rw [if_neg k, if_neg (fun x => k (c.1 x))]
      exact eraAt_alone fun z hz => h z (List.mem_cons_of_mem _ hz)
theorem phE_alone {L : List Rl} {p : Rl → Bool} {x : Er} {T : Int} {abbr : ByteArray → ByteArray → Int → Int → ByteArray} (h : ∀ y ∈ L, y.name = x.rules → p y = true) : phE abbr (L.filter p) x T = phE abbr L x T := by
  unfold phE savE
  rw [setL_used h]
end Go.Proofs.YtallclimljiplaaGreatDoor
