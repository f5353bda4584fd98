import Derived.Test.YtkkdclibbdeejaaDoorZUon
import Derived.Test.YtkkdclibbdeejaaDoorZHdata
import Derived.Test.YtkkdclibbdeejaaDoorZHsrc
import Derived.Test.YtkkdclibbdeejaaDoorZHsame
/- Layer 11: sets of rules as data: turns, the latest one of those that meet a condition, what is in force. No program here. -/
namespace Go.Proofs.YtkkdclibbdeejaaDoor
open Go.RowKit
/-- a turn -/
structure Tn where
  at_ : Int
  re : Int
  save : Int
  letter : ByteArray
def Tn.zero : Tn := ⟨0, 0, 0, ⟨#[]⟩⟩
def Tn.vals (t : Tn) : List Value := [.int .i64 t.at_, .int .i64 t.re, .int .i64 t.save, .string t.letter]
def Tn.val (t : Tn) : Value := .agg t.vals.toArray
theorem Tn.ext' {a b : Tn} (h1 : a.at_ = b.at_) (h2 : a.re = b.re) (h3 : a.save = b.save) (h4 : a.letter = b.letter) : a = b := by
  cases a; cases b; simp_all
/-- a rule of a set that is right -/
def Rl.fit (x : Rl) : Prop := (1 ≤ x.fr ∧ x.fr ≤ 9999) ∧ (1 ≤ x.last ∧ (x.last ≤ 9999 ∨ x.last = 1000000)) ∧ x.sp.ok ∧ (-43200 ≤ x.save ∧ x.save ≤ 43200)
def fitL (L : List Rl) : Prop := ∀ x ∈ L, x.fit
/-- has a rule a turn in a year? the turn -/
def turnIn (x : Rl) (y : Int) : Prop := (x.fr ≤ y ∧ y ≤ x.last) ∧ onOk x.sp y
def turnT (x : Rl) (y : Int) : Tn := ⟨loN x.sp y, x.sp.re, x.save, x.letter⟩
theorem onOk_year {x : Sp} {y : Int} (h : onOk x y) : 1 ≤ y ∧ y ≤ 275760 := ⟨h.2.1.1, (ok_year h.2.2.1).2⟩
/-- a spot's day lies in its year, but for six days -/
theorem cum_top {y m : Int} (h1 : 1 ≤ m) (h2 : m ≤ 12) : 0 ≤ cum y m ∧ cum y m ≤ lenY y - 31 := by
  have c := cum_succ (y := y) (m := 12) (by omega) (by omega)
  have e := cum_end y
  have l : lenM y 12 = 31 := by unfold lenM; simp
  have r := cum_range (y := y) (m := m) h1 (by omega)
  rw [show (12 : Int) + 1 = 13 from rfl] at c
  by_cases h : m = 12
  · subst h; omega
  · have := cum_lt (y := y) (m := m) (m' := 12) h1 (by omega) (by omega)
    have := lenM_le y m
    omega
theorem onDay_near11 {x : Sp} (h : x.ok) (y : Int) : numD y x.mo 1 - 6 ≤ onDay x y ∧ onDay x y ≤ numD y x.mo 1 + 36 := by
  obtain ⟨⟨m1, m12⟩, ⟨k0, k3⟩, _, _, w0, w1, d0, d1⟩ := h
  have lm := lenM_range (y := y) m1 m12
  have h8 := @downTo_is (numD y x.mo 1 + lenM y x.mo - 1) x.wd
  have h9 := @downTo_is (numD y x.mo 1 + x.da - 1) x.wd
  have h10 := @upTo_is (numD y x.mo 1 + x.da - 1) x.wd
  unfold onDay
  split
  · omega
  · split
    · omega
    · split <;> omega
theorem onDay_year {x : Sp} (h : x.ok) (y : Int) : jan y - 6 ≤ onDay x y ∧ onDay x y ≤ jan (y + 1) + 5 := by
  obtain ⟨m1, m12⟩ := h.1
  have ct := cum_top (y := y) m1 m12
  have hj := jan_succ y
  have hn : numD y x.mo 1 = jan y + cum y x.mo := by unfold numD; omega
  have nr := onDay_near11 h y
  omega
theorem cum_leap (y z m : Int) : cum y m ≤ cum z m + 1 := by
  have a : (if leap y then (1 : Int) else 0) ≤ 1 := by split <;> omega
  have b : 0 ≤ (if leap z then (1 : Int) else 0) := by split <;> omega
  unfold cum
  by_cases h1 : m ≤ 1
  · rw [if_pos h1, if_pos h1]; omega
  rw [if_neg h1, if_neg h1]
  by_cases h2 : m = 2
  · rw [if_pos h2, if_pos h2]; omega
  rw [if_neg h2, if_neg h2]
  generalize (if m = 3 then (59 : Int) else if m = 4 then 90 else if m = 5 then 120 else if m = 6 then 151 else if m = 7 then 181 else if m = 8 then 212 else if m = 9 then 243 else if m = 10 then 273 else if m = 11 then 304 else if m = 12 then 334 else 365) = q
  omega
/-- the same rule's turns, year by year -/
theorem onDay_next {x : Sp} (h : x.ok) {y z : Int} (l : y < z) : onDay x y + 320 ≤ onDay x z := by
  have a := onDay_near11 h y
  have b := onDay_near11 h z
  obtain ⟨m1, m12⟩ := h.1
  have e1 : numD y x.mo 1 = jan y + cum y x.mo := by unfold numD; omega
  have e2 : numD z x.mo 1 = jan z + cum z x.mo := by unfold numD; omega
  have j := jan_lt l
  have c := cum_leap y z x.mo
  omega
theorem turn_at {x : Rl} {y : Int} (h : turnIn x y) : (turnT x y).at_ = onDay x.sp y * 86400 + x.sp.ti := by
  unfold turnT loN
  rw [if_pos h.2]
theorem turn_year {x : Rl} {y : Int} (h : turnIn x y) : 86400 * (jan y - 6) - 604799 ≤ (turnT x y).at_ ∧ (turnT x y).at_ ≤ 86400 * (jan (y + 1) + 5) + 604799 := by
  have a := onDay_year h.2.1 y
  have t := h.2.1.2.2.1
  rw [turn_at h]
  omega
theorem turn_next {x : Rl} {y z : Int} (h : turnIn x y) (k : turnIn x z) (l : y < z) : (turnT x y).at_ + 20000000 < (turnT x z).at_ := by
  have a := onDay_next h.2.1 l
  rw [turn_at h, turn_at k]
  omega
theorem turn_same {x : Rl} {y z : Int} (h : turnIn x y) (k : turnIn x z) (e : (turnT x y).at_ = (turnT x z).at_) : y = z := by
  rcases Int.lt_trichotomy y z with l | l | l
  · have := turn_next h k l; omega
  · exact l
  · have := turn_next k h l; omega
/-- a rule that is in force in a year, and whose year's day is a right date, has a turn there -/
theorem turn_is {x : Rl} (hx : x.fit) {y : Int} (h : x.fr ≤ y ∧ y ≤ x.last) (h2 : y ≤ 275700) : turnIn x y := by
  refine ⟨h, hx.2.2.1, ⟨by have := hx.1.1; omega, by omega⟩, ?_, ?_⟩
  · obtain ⟨m1, m12⟩ := hx.2.2.1.1
    have ct := cum_top (y := y) m1 m12
    have lm := lenM_range (y := y) m1 m12
    have e1 : numD y x.sp.mo 1 = jan y + cum y x.sp.mo := by unfold numD; omega
    have b := jan_le (a := 1) (b := y) (by have := hx.1.1; omega)
    have b2 := jan_le (a := y) (b := 275700) h2
    have c1 : jan 1 = -719162 := by decide
    have c2 : jan 275700 = 99977830 := by decide
    have l := lenY_range y
    exact ⟨⟨m1, m12, by omega, by omega⟩, by omega, by omega⟩
  · have a := (onDay_year hx.2.2.1 y).2
    have b2 := jan_le (a := y + 1) (b := 275701) (by omega)
    have c2 : jan 275701 = 99978195 := by decide
    omega
/-- a set's turns -/
def isTurn (L : List Rl) (i : Nat) (y : Int) (t : Tn) : Prop := ∃ x, L[i]? = some x ∧ turnIn x y ∧ t = turnT x y
/-- the latest turn of a set that meets P (of like ones that of the rule further behind), or that there is none -/
def Latest (L : List Rl) (P : Tn → Prop) : Option Tn → Prop
  | none => ∀ i y t, isTurn L i y t → ¬ P t
  | some t => ∃ i y, isTurn L i y t ∧ P t ∧ ∀ j z u, isTurn L j z u → P u → u.at_ < t.at_ ∨ (u.at_ = t.at_ ∧ j ≤ i)
theorem Latest.one {L : List Rl} {P : Tn → Prop} {a b : Option Tn} (h : Latest L P a) (k : Latest L P b) : a = b := by
  cases a with
  | none =>
    cases b with
    | none => rfl
    | some t => obtain ⟨i, y, h1, h2, _⟩ := k; exact absurd h2 (h i y t h1)
  | some t =>
    cases b with
    | none => obtain ⟨i, y, h1, h2, _⟩ := h; exact absurd h2 (k i y t h1)
    | some u =>
      obtain ⟨i, y, h1, h2, h3⟩ := h
      obtain ⟨j, z, k1, k2, k3⟩ := k
      have a := h3 j z u k1 k2
      have b := k3 i y t h1 h2
      have e : u.at_ = t.at_ := by omega
      obtain rfl : i = j := by omega
      obtain ⟨x, hx, hy, rfl⟩ := h1
      obtain ⟨x', hx', hz, rfl⟩ := k1
      rw [hx] at hx'
      cases hx'
      rw [turn_same hz hy e]
/-- of one rule: the latest of its turns that meets P -/
def LatestOf (x : Rl) (P : Tn → Prop) : Option Int → Prop
  | none => ∀ y, turnIn x y → ¬ P (turnT x y)
  | some y => turnIn x y ∧ P (turnT x y) ∧ ∀ z, turnIn x z → P (turnT x z) → z ≤ y
theorem take_at {α : Type} {L : List α} {k i : Nat} (h : i < k) : (L.take k)[i]? = L[i]? := by rw [List.getElem?_take, if_pos h]
theorem Latest.zero (L : List Rl) (P : Tn → Prop) : Latest (L.take 0) P none := fun i y t ⟨x, hx, _⟩ => by simp at hx
/-- one rule more -/
theorem Latest.next {L : List Rl} {P : Tn → Prop} {k : Nat} {x : Rl} (hx : L[k]? = some x) {b : Option Tn} (h : Latest (L.take k) P b) {r : Option Int} (hr : LatestOf x P r) :
    Latest (L.take (k + 1)) P (match r with | none => b | some y => match b with | none => some (turnT x y) | some t => if t.at_ ≤ (turnT x y).at_ then some (turnT x y) else some t) := by
  have old : ∀ {i y t}, isTurn (L.take (k + 1)) i y t → isTurn (L.take k) i y t ∨ (i = k ∧ turnIn x y ∧ t = turnT x y) := fun {i y t} ⟨x', hx', ht⟩ => by
    have hi : i < k + 1 := by
      have := (List.getElem?_eq_some_iff.1 hx').1
      rw [List.length_take] at this
      omega
    rw [take_at hi] at hx'
    by_cases e : i = k
    · subst e
      rw [hx] at hx'
      cases hx'
      exact .inr ⟨rfl, ht⟩
    · exact .inl ⟨x', by rw [take_at (by omega)]; exact hx', ht⟩
  have up : ∀ {i y t}, isTurn (L.take k) i y t → i < k ∧ isTurn (L.take (k + 1)) i y t := fun {i y t} ⟨x', hx', ht⟩ => by
    have hi : i < k := by
      have := (List.getElem?_eq_some_iff.1 hx').1
      rw [List.length_take] at this
      omega
    rw [take_at hi] at hx'
    exact ⟨hi, x', by rw [take_at (by omega)]; exact hx', ht⟩
  have new : ∀ {y}, turnIn x y → isTurn (L.take (k + 1)) k y (turnT x y) := fun {y} hy => ⟨x, by rw [take_at (by omega)]; exact hx, hy, rfl⟩
  cases r with
  | none =>
    cases b with
    | none =>
      intro i y t ht
      rcases old ht with h1 | ⟨rfl, h1, rfl⟩
      · exact h i y t h1
      · exact hr y h1
    | some t =>
      obtain ⟨i, y, h1, h2, h3⟩ := h
      refine ⟨i, y, (up h1).2, h2, fun j z u hu pu => ?_⟩
      rcases old hu with k1 | ⟨rfl, k1, rfl⟩
      · exact h3 j z u k1 pu
      · exact absurd pu (hr z k1)
  | some y =>
    obtain ⟨r1, r2, r3⟩ := hr
    have below : ∀ z, turnIn x z → P (turnT x z) → (turnT x z).at_ ≤ (turnT x y).at_ := fun z hz pz => by
      rcases Int.lt_or_eq_of_le (r3 z hz pz) with l | l
      · have := turn_next hz r1 l; omega
      · rw [l]; exact Int.le_refl _
    cases b with
    | none =>
      refine ⟨k, y, new r1, r2, fun j z u hu pu => ?_⟩
      rcases old hu with k1 | ⟨rfl, k1, rfl⟩
      · exact absurd pu (h j z u k1)
      · have := below z k1 pu; omega
    | some t =>
      obtain ⟨i, y0, h1, h2, h3⟩ := h
      dsimp only
      by_cases c : t.at_ ≤ (turnT x y).at_
      · rw [if_pos c]
        refine ⟨k, y, new r1, r2, fun j z u hu pu => ?_⟩
        rcases old hu with k1 | ⟨rfl, k1, rfl⟩
        · have := h3 j z u k1 pu
          have := (up k1).1
          omega
        · have := below z k1 pu; omega
      · rw [if_neg c]
        refine ⟨i, y0, (up h1).2, h2, fun j z u hu pu => ?_⟩
        rcases old hu with k1 | ⟨rfl, k1, rfl⟩
        · exact h3 j z u k1 pu
        · have := below z k1 pu; omega
end Go.Proofs.YtkkdclibbdeejaaDoor
/- Layer 11: the latest turn is there; how far a time's year may lie from a turn's; universal times; what is in force. No program here. -/
namespace Go.Proofs.YtkkdclibbdeejaaDoor
open Go.RowKit
theorem latestOf_ex (x : Rl) (P : Tn → Prop) : ∃ r, LatestOf x P r := by
  have go : ∀ (n : Nat) (y : Int), (∀ z, turnIn x z → P (turnT x z) → z ≤ y) → y ≤ n → ∃ r, LatestOf x P r := by
    intro n
    induction n with
    | zero =>
      intro y h hn
      refine ⟨none, fun z hz pz => ?_⟩
      have := h z hz pz
      have := (onOk_year hz.2).1
      omega
    | succ n ih =>
      intro y h hn
      by_cases c : turnIn x y ∧ P (turnT x y)
      · exact ⟨some y, c.1, c.2, h⟩
      · refine ih (y - 1) (fun z hz pz => ?_) (by omega)
        have a := h z hz pz
        have b : z ≠ y := fun e => c (e ▸ ⟨hz, pz⟩)
        omega
  exact go 275760 275760 (fun z hz _ => (onOk_year hz.2).2) (by omega)
theorem latest_ex (L : List Rl) (P : Tn → Prop) : ∃ r, Latest L P r := by
  have go : ∀ k, k ≤ L.length → ∃ r, Latest (L.take k) P r := by
    intro k
    induction k with
    | zero => intro _; exact ⟨none, Latest.zero L P⟩
    | succ k ih =>
      intro hk
      obtain ⟨b, hb⟩ := ih (by omega)
      obtain ⟨r, hr⟩ := latestOf_ex L[k] P
      exact ⟨_, hb.next (List.getElem?_eq_getElem (by omega)) hr⟩
  obtain ⟨r, hr⟩ := go L.length (Nat.le_refl _)
  rw [List.take_length] at hr
  exact ⟨r, hr⟩
/-- the latest turn that meets P -/
noncomputable def latestO (L : List Rl) (P : Tn → Prop) : Option Tn := Classical.choose (latest_ex L P)
theorem latestO_is (L : List Rl) (P : Tn → Prop) : Latest L P (latestO L P) := Classical.choose_spec (latest_ex L P)
theorem latestO_of {L : List Rl} {P : Tn → Prop} {r : Option Tn} (h : Latest L P r) : latestO L P = r := (latestO_is L P).one h
/-- the turn ahead of a local time -/
noncomputable def aheadO (L : List Rl) (a : Int) : Option Tn := latestO L (fun t => t.at_ < a)
noncomputable def aheadSave (L : List Rl) (a : Int) : Int := match aheadO L a with | none => 0 | some t => t.save
/-- a turn's universal time -/
noncomputable def uniT (L : List Rl) (off : Int) (t : Tn) : Int := if t.re = 2 then t.at_ else if t.re = 1 then t.at_ - off else t.at_ - off - aheadSave L t.at_
/-- the latest turn whose universal time is at most T -/
noncomputable def lastO (L : List Rl) (off T : Int) : Option Tn := latestO L (fun t => uniT L off t ≤ T)
theorem latest_in {L : List Rl} {P : Tn → Prop} {t : Tn} (h : latestO L P = some t) : ∃ i y, isTurn L i y t ∧ P t := by
  have := latestO_is L P
  rw [h] at this
  obtain ⟨i, y, h1, h2, _⟩ := this
  exact ⟨i, y, h1, h2⟩
theorem turn_fit {L : List Rl} (hL : fitL L) {i : Nat} {y : Int} {t : Tn} (h : isTurn L i y t) : (-43200 ≤ t.save ∧ t.save ≤ 43200) ∧ (0 ≤ t.re ∧ t.re ≤ 2) := by
  obtain ⟨x, hx, _, rfl⟩ := h
  have f := hL x (List.mem_of_getElem? hx)
  exact ⟨f.2.2.2, f.2.2.1.2.2.2.1⟩
theorem aheadSave_in {L : List Rl} (hL : fitL L) (a : Int) : -43200 ≤ aheadSave L a ∧ aheadSave L a ≤ 43200 := by
  unfold aheadSave
  cases e : aheadO L a with
  | none => exact ⟨by decide, by decide⟩
  | some t =>
    obtain ⟨i, y, h, _⟩ := latest_in e
    exact (turn_fit hL h).1
theorem uniT_near {L : List Rl} (hL : fitL L) {off : Int} (h1 : -86400 < off) (h2 : off < 86400) (t : Tn) : t.at_ - 129599 ≤ uniT L off t ∧ uniT L off t ≤ t.at_ + 129599 := by
  have := aheadSave_in hL t.at_
  unfold uniT
  split
  · omega
  · split <;> omega
/-- the document's year of a second, or one near the ends -/
def yearOk (T Y : Int) : Prop := (T < -8640000000000 ∧ Y = -271821) ∨ (8640000000000 < T ∧ Y = 275760) ∨ (jan Y * 86400 ≤ T ∧ T < jan (Y + 1) * 86400)
/-- turns of years far behind lie far behind -/
theorem year_top {T Y : Int} (h : yearOk T Y) {x : Rl} {y : Int} (hy : turnIn x y) (l : Y + 2 < y) : T + 200000 < (turnT x y).at_ := by
  have t := (turn_year hy).1
  have y1 := onOk_year hy.2
  have j1 := jan_le y1.1
  have c1 : jan 1 = -719162 := by decide
  rcases h with ⟨h, rfl⟩ | ⟨h, rfl⟩ | ⟨h1, h2⟩
  · omega
  · omega
  · have a := jan_lt (a := Y + 1) (b := Y + 2) (by omega)
    have b := jan_lt (a := Y + 2) (b := y) (by omega)
    omega
theorem year_low {T Y : Int} (h : yearOk T Y) {x : Rl} {y : Int} (hy : turnIn x y) (l : y < Y - 2) : (turnT x y).at_ + 200000 < T := by
  have t := (turn_year hy).2
  have y1 := onOk_year hy.2
  rcases h with ⟨h, rfl⟩ | ⟨h, rfl⟩ | ⟨h1, h2⟩
  · omega
  · have j1 := jan_le (a := y + 1) (b := 275758) (by omega)
    have c1 : jan 275758 = 99999014 := by decide
    omega
  · have a := jan_lt (a := Y - 1) (b := Y) (by omega)
    have b := jan_lt (a := y + 1) (b := Y - 1) (by omega)
    omega
/-- one rule's years gone through from above: up to here none meets P -/
def noneFrom (x : Rl) (P : Tn → Prop) (y : Int) : Prop := ∀ z, turnIn x z → y < z → ¬ P (turnT x z)
theorem noneFrom_top {x : Rl} {P : Tn → Prop} {T Y : Int} (h : yearOk T Y) (hP : ∀ t : Tn, P t → t.at_ ≤ T + 200000) : noneFrom x P (min x.last (Y + 2)) := fun z hz l p => by
  by_cases c : x.last < z
  · have := hz.1.2; omega
  · have := year_top h hz (by omega)
    have := hP _ p
    omega
theorem noneFrom_next {x : Rl} {P : Tn → Prop} {y : Int} (h : noneFrom x P y) (k : ¬ (turnIn x y ∧ P (turnT x y))) : noneFrom x P (y - 1) := fun z hz l p => by
  by_cases c : y < z
  · exact h z hz c p
  · obtain rfl : z = y := by omega
    exact k ⟨hz, p⟩
theorem noneFrom_all {x : Rl} {P : Tn → Prop} {y : Int} (h : noneFrom x P y) (l : y < x.fr) : LatestOf x P none := fun z hz p => h z hz (by have := hz.1.1; omega) p
theorem noneFrom_hit {x : Rl} {P : Tn → Prop} {y : Int} (h : noneFrom x P y) (h1 : turnIn x y) (h2 : P (turnT x y)) : LatestOf x P (some y) := ⟨h1, h2, fun z hz p => by
  by_cases c : y < z
  · exact absurd p (h z hz c)
  · omega⟩
end Go.Proofs.YtkkdclibbdeejaaDoor
/- Layer 11: a year's turns in order; what is in force; where it changes, and where it lasts. No program here. -/
namespace Go.Proofs.YtkkdclibbdeejaaDoor
open Go.RowKit
instance (x : Rl) (y : Int) : Decidable (turnIn x y) := by unfold turnIn; infer_instance
/-- where a turn is put among others: behind the last one that isn't later -/
def cutK (t : Tn) (l : List Tn) : Nat → Nat
  | 0 => 0
  | k + 1 => if t.at_ < (l.getD k Tn.zero).at_ then cutK t l k else k + 1
theorem cutK_le (t : Tn) (l : List Tn) : ∀ k, cutK t l k ≤ k
  | 0 => Nat.le_refl _
  | k + 1 => by
    unfold cutK
    split
    · exact Nat.le_succ_of_le (cutK_le t l k)
    · exact Nat.le_refl _
def insT (t : Tn) (l : List Tn) : List Tn := l.take (cutK t l l.length) ++ [t] ++ l.drop (cutK t l l.length)
theorem insT_perm (t : Tn) (l : List Tn) : (insT t l).Perm (t :: l) := by
  unfold insT
  rw [List.append_assoc]
  have := @List.perm_middle _ t (l.take (cutK t l l.length)) (l.drop (cutK t l l.length))
  rw [List.take_append_drop] at this
  exact this
/-- a year's turns, in order -/
def turnsGo (y : Int) : List Rl → List Tn → List Tn
  | [], out => out
  | x :: r, out => turnsGo y r (if turnIn x y then insT (turnT x y) out else out)
def turnsL (L : List Rl) (y : Int) : List Tn := turnsGo y L []
def baseT (L : List Rl) (y : Int) : List Tn := (L.filter (fun x => decide (turnIn x y))).map (fun x => turnT x y)
theorem turnsGo_perm (y : Int) : ∀ (L : List Rl) (out : List Tn), (turnsGo y L out).Perm (baseT L y ++ out)
  | [], out => List.Perm.refl _
  | x :: r, out => by
    unfold turnsGo baseT
    by_cases h : turnIn x y
    · rw [if_pos h, List.filter_cons_of_pos (by simpa using h), List.map_cons]
      refine (turnsGo_perm y r _).trans ?_
      refine (List.Perm.append_left _ (insT_perm _ _)).trans ?_
      exact List.perm_middle
    · rw [if_neg h, List.filter_cons_of_neg (by simpa using h)]
      exact turnsGo_perm y r out
theorem turnsL_perm (L : List Rl) (y : Int) : (turnsL L y).Perm (baseT L y) := by
  have := turnsGo_perm y L []
  rwa [List.append_nil] at this
theorem turnsL_mem {L : List Rl} {y : Int} {t : Tn} : t ∈ turnsL L y ↔ ∃ i, isTurn L i y t := by
  rw [(turnsL_perm L y).mem_iff]
  unfold baseT
  rw [List.mem_map]
  constructor
  · rintro ⟨x, hx, rfl⟩
    rw [List.mem_filter] at hx
    obtain ⟨i, hi, e⟩ := List.mem_iff_getElem.1 hx.1
    exact ⟨i, x, by rw [List.getElem?_eq_getElem hi, e], by simpa using hx.2, rfl⟩
  · rintro ⟨i, x, hx, ht, rfl⟩
    exact ⟨x, List.mem_filter.2 ⟨List.mem_of_getElem? hx, by simpa using ht⟩, rfl⟩
theorem two_count {α : Type} {p : α → Bool} : ∀ {l : List α} {i j : Nat} {a b : α}, l[i]? = some a → l[j]? = some b → i < j → p a = true → p b = true → 2 ≤ l.countP p
  | [], i, j, a, b, h, _, _, _, _ => by simp at h
  | c :: r, i, j, a, b, h, k, l, pa, pb => by
    rw [List.countP_cons]
    cases j with
    | zero => omega
    | succ j =>
      have k' : r[j]? = some b := by simpa using k
      cases i with
      | zero =>
        have : c = a := by simpa using h
        subst this
        rw [if_pos pa]
        have : 0 < r.countP p := List.countP_pos_iff.2 ⟨b, List.mem_of_getElem? k', pb⟩
        omega
      | succ i =>
        have h' : r[i]? = some a := by simpa using h
        have := two_count h' k' (by omega) pa pb
        omega
theorem one_count {α : Type} {p : α → Bool} : ∀ {l : List α} {k : Nat}, (∀ q x, l[q]? = some x → p x = true → q = k) → l.countP p ≤ 1
  | [], _, _ => by simp
  | c :: r, k, h => by
    rw [List.countP_cons]
    by_cases hc : p c = true
    · rw [if_pos hc]
      have k0 := h 0 c rfl hc
      have : r.countP p = 0 := List.countP_eq_zero.2 fun x hx px => by
        obtain ⟨q, hq⟩ := List.getElem?_of_mem hx
        have := h (q + 1) x (by simpa using hq) px
        omega
      omega
    · rw [if_neg hc]
      exact one_count (l := r) (k := k - 1) fun q x hx px => by
        have := h (q + 1) x (by simpa using hx) px
        omega
/-- two rules' turns of a year stand at two places -/
theorem turns_one {L : List Rl} {y : Int} {k : Nat} {a : Int} (h : ∀ q t, (turnsL L y)[q]? = some t → t.at_ = a → q = k) {i j : Nat} {t u : Tn} (hi : isTurn L i y t) (hj : isTurn L j y u) (et : t.at_ = a) (eu : u.at_ = a) : i = j := by
  have c1 : (turnsL L y).countP (fun t => decide (t.at_ = a)) ≤ 1 := one_count (k := k) fun q x hx px => h q x hx (by simpa using px)
  rw [(turnsL_perm L y).countP_eq] at c1
  unfold baseT at c1
  rw [List.countP_map, List.countP_filter] at c1
  obtain ⟨x, hx, tx, rfl⟩ := hi
  obtain ⟨x', hx', tx', rfl⟩ := hj
  rcases Nat.lt_trichotomy i j with l | l | l
  · have := two_count (p := fun a_1 => ((fun t => decide (t.at_ = a)) ∘ fun x => turnT x y) a_1 && decide (turnIn a_1 y)) hx hx' l (by simp [et, tx]) (by simp [eu, tx'])
    omega
  · exact l
  · have := two_count (p := fun a_1 => ((fun t => decide (t.at_ = a)) ∘ fun x => turnT x y) a_1 && decide (turnIn a_1 y)) hx' hx l (by simp [eu, tx']) (by simp [et, tx])
    omega
/-- the first rule of Save 0 whose first turn is the least late one -/
def earlier (b : Option Tn) (a : Int) : Bool := match b with | none => true | some t => decide (a < t.at_)
def firstGo : List Rl → Option Tn → Option Tn
  | [], b => b
  | x :: r, b => firstGo r (if turnIn x x.fr ∧ x.save = 0 ∧ earlier b (turnT x x.fr).at_ = true then some (turnT x x.fr) else b)
/-- what is in force -/
noncomputable def forceR (L : List Rl) (off T : Int) : Int × ByteArray := match lastO L off T with
  | some t => (t.save, t.letter)
  | none => (0, match firstGo L none with | none => ⟨#[]⟩ | some t => t.letter)
/-- WHAT IS IN FORCE CHANGES AT UNIVERSAL TIMES OF TURNS ALONE -/
theorem force_steps {L : List Rl} (hL : fitL L) {off T Y : Int} (h1 : -86400 < off) (h2 : off < 86400) (hY : yearOk T Y) (ne : forceR L off T ≠ forceR L off (T - 1)) :
    ∃ (y : Int) (t : Tn), Y - 2 ≤ y ∧ y ≤ Y + 2 ∧ t ∈ turnsL L y ∧ uniT L off t = T ∧ forceR L off T = (t.save, t.letter) := by
  have a := latestO_is L (fun t => uniT L off t ≤ T)
  cases e : lastO L off T with
  | none =>
    have e' : latestO L (fun t => uniT L off t ≤ T) = none := e
    rw [e'] at a
    have : lastO L off (T - 1) = none := latestO_of fun i y t ht p => a i y t ht (by show uniT L off t ≤ T; omega)
    exact absurd (by unfold forceR; rw [e, this]) ne
  | some t =>
    have e' : latestO L (fun t => uniT L off t ≤ T) = some t := e
    rw [e'] at a
    obtain ⟨i, y, k1, k2, k3⟩ := a
    by_cases c : uniT L off t = T
    · have near := uniT_near hL h1 h2 t
      have fr : forceR L off T = (t.save, t.letter) := by unfold forceR; rw [e]
      obtain ⟨x, hx, ty, et⟩ := k1
      refine ⟨y, t, ?_, ?_, turnsL_mem.2 ⟨i, x, hx, ty, et⟩, c, fr⟩
      · by_cases l : y < Y - 2
        · have := year_low hY ty l; rw [← et] at this; omega
        · omega
      · by_cases l : Y + 2 < y
        · have := year_top hY ty l; rw [← et] at this; omega
        · omega
    · have : lastO L off (T - 1) = some t := latestO_of ⟨i, y, k1, by show uniT L off t ≤ T - 1; omega, fun j z u hu pu => k3 j z u hu (by have : uniT L off u ≤ T - 1 := pu; omega)⟩
      exact absurd (by unfold forceR; rw [e, this]) ne
/-- WHERE NO TURN LIES NEAR ONE, BEHIND ITS UNIVERSAL TIME IT IS IN FORCE -/
theorem force_tells {L : List Rl} (hL : fitL L) {off : Int} (h1 : -86400 < off) (h2 : off < 86400) {y : Int} {k : Nat} {t : Tn} (ht : (turnsL L y)[k]? = some t)
    (far : ∀ z, y - 1 ≤ z → z ≤ y + 1 → ∀ q u, (turnsL L z)[q]? = some u → (z ≠ y ∨ q ≠ k) → 172800 ≤ u.at_ - t.at_ ∨ u.at_ - t.at_ ≤ -172800) (n : Int) (n0 : 0 ≤ n) (n1 : n ≤ 3599) :
    forceR L off (uniT L off t + n) = (t.save, t.letter) := by
  obtain ⟨i, x, hx, ty, rfl⟩ := turnsL_mem.1 (List.mem_of_getElem? ht)
  have one : ∀ q u, (turnsL L y)[q]? = some u → u.at_ = (turnT x y).at_ → q = k := fun q u hq eq => by
    by_cases c : q = k
    · exact c
    · have := far y (by omega) (by omega) q u hq (.inr c)
      omega
  have key : lastO L off (uniT L off (turnT x y) + n) = some (turnT x y) := latestO_of ⟨i, y, ⟨x, hx, ty, rfl⟩, by show uniT L off (turnT x y) ≤ _; omega, fun j z u hu pu => by
    have pu' : uniT L off u ≤ uniT L off (turnT x y) + n := pu
    obtain ⟨x', hx', tz, rfl⟩ := hu
    by_cases c1 : (turnT x' z).at_ < (turnT x y).at_
    · exact .inl c1
    by_cases c2 : 172800 ≤ (turnT x' z).at_ - (turnT x y).at_
    · exfalso
      have s1 := aheadSave_in hL (turnT x' z).at_
      have s2 := aheadSave_in hL (turnT x y).at_
      unfold uniT at pu'
      revert pu'
      split <;> split <;> (try split) <;> (try split) <;> omega
    · have ya := turn_year ty
      have yb := turn_year tz
      have z1 : y - 1 ≤ z := by
        by_cases l : y - 1 ≤ z
        · exact l
        · have := jan_lt (a := z + 1) (b := y) (by omega); omega
      have z2 : z ≤ y + 1 := by
        by_cases l : z ≤ y + 1
        · exact l
        · have := jan_lt (a := y + 1) (b := z) (by omega); omega
      have hu : isTurn L j z (turnT x' z) := ⟨x', hx', tz, rfl⟩
      obtain ⟨q, hq⟩ := List.getElem?_of_mem (turnsL_mem.2 ⟨j, hu⟩)
      by_cases e : z ≠ y ∨ q ≠ k
      · have := far z z1 z2 q _ hq e; omega
      · obtain rfl : z = y := by omega
        obtain rfl : q = k := by omega
        rw [ht] at hq
        have eq := Option.some.inj hq
        have ea : (turnT x' z).at_ = (turnT x z).at_ := by rw [← eq]
        have := turns_one one (⟨x, hx, ty, rfl⟩ : isTurn L i z (turnT x z)) hu rfl ea
        omega⟩
  unfold forceR
  rw [key]
end Go.Proofs.YtkkdclibbdeejaaDoor
/- Layer 11: the two rules by which a package is asked whether it is alive. No program here. -/
namespace Go.Proofs.YtkkdclibbdeejaaDoor
open Go.RowKit
def usA : Rl := ⟨⟨#[85, 83]⟩, 2007, 1000000, ⟨3, 2, 7, 8, 7200, 0⟩, 3600, ⟨#[68]⟩⟩
def usB : Rl := ⟨⟨#[85, 83]⟩, 2007, 1000000, ⟨11, 2, 7, 1, 7200, 0⟩, 0, ⟨#[83]⟩⟩
def usL : List Rl := [usA, usB]
theorem us_fit : fitL usL := by
  intro x hx
  simp only [usL, List.mem_cons, List.not_mem_nil, or_false] at hx
  rcases hx with rfl | rfl
  · exact ⟨by decide, by decide, by unfold Sp.ok; decide, by decide⟩
  · exact ⟨by decide, by decide, by unfold Sp.ok; decide, by decide⟩
theorem us_A20 : turnT usA 2020 = ⟨1583632800, 0, 3600, ⟨#[68]⟩⟩ := by kernel_rfl
theorem us_B20 : turnT usB 2020 = ⟨1604196000, 0, 0, ⟨#[83]⟩⟩ := by kernel_rfl
theorem us_A21 : turnT usA 2021 = ⟨1615687200, 0, 3600, ⟨#[68]⟩⟩ := by kernel_rfl
theorem us_B21 : turnT usB 2021 = ⟨1636250400, 0, 0, ⟨#[83]⟩⟩ := by kernel_rfl
theorem us_tB20 : isTurn usL 1 2020 (turnT usB 2020) := ⟨usB, rfl, of_decide_eq_true (by kernel_rfl), rfl⟩
theorem us_tA21 : isTurn usL 0 2021 (turnT usA 2021) := ⟨usA, rfl, of_decide_eq_true (by kernel_rfl), rfl⟩
theorem us_turns : turnsL usL 2021 = [turnT usA 2021, turnT usB 2021] := by kernel_rfl
theorem us_all {j : Nat} {z : Int} {u : Tn} (h : isTurn usL j z u) : u.at_ < 1583632800 ∨ (j ≤ 1 ∧ u.at_ = 1583632800) ∨ (j = 1 ∧ u.at_ = 1604196000) ∨ (j = 0 ∧ u = turnT usA 2021) ∨ 1636250400 ≤ u.at_ := by
  obtain ⟨x, hx, ht, rfl⟩ := h
  have hj : (j = 0 ∧ x = usA) ∨ (j = 1 ∧ x = usB) := by
    have l := (List.getElem?_eq_some_iff.1 hx).1
    have l2 : j < 2 := l
    rcases (by omega : j = 0 ∨ j = 1) with rfl | rfl
    · left; exact ⟨rfl, (Option.some.inj hx).symm⟩
    · right; exact ⟨rfl, (Option.some.inj hx).symm⟩
  have ty := turn_year ht
  have c1 : jan 2020 = 18262 := by decide
  have c2 : jan 2022 = 18993 := by decide
  by_cases l1 : z ≤ 2019
  · left
    have := jan_le (a := z + 1) (b := 2020) (by omega)
    omega
  by_cases l2 : 2022 ≤ z
  · have := jan_le (a := 2022) (b := z) l2
    exact .inr (.inr (.inr (.inr (by omega))))
  rcases (by omega : z = 2020 ∨ z = 2021) with rfl | rfl
  · rcases hj with ⟨rfl, rfl⟩ | ⟨rfl, rfl⟩
    · rw [us_A20]; exact .inr (.inl ⟨by omega, rfl⟩)
    · rw [us_B20]; exact .inr (.inr (.inl ⟨rfl, rfl⟩))
  · rcases hj with ⟨rfl, rfl⟩ | ⟨rfl, rfl⟩
    · exact .inr (.inr (.inr (.inl ⟨rfl, rfl⟩)))
    · rw [us_B21]; exact .inr (.inr (.inr (.inr (Int.le_refl _))))
theorem us_ahead : aheadO usL 1615687200 = some (turnT usB 2020) := latestO_of ⟨1, 2020, us_tB20, by rw [us_B20]; decide, fun j z u hu pu => by
  have pu' : u.at_ < 1615687200 := pu
  rw [us_B20]
  show u.at_ < 1604196000 ∨ (u.at_ = 1604196000 ∧ j ≤ 1)
  rcases us_all hu with h | ⟨_, h⟩ | ⟨h0, h⟩ | ⟨_, h⟩ | h
  · omega
  · omega
  · omega
  · rw [h, us_A21] at pu'; exact absurd pu' (by decide)
  · omega⟩
theorem us_uni : uniT usL (-18000) (turnT usA 2021) = 1615705200 := by
  have h : aheadSave usL (turnT usA 2021).at_ = 0 := by
    unfold aheadSave
    rw [show (turnT usA 2021).at_ = 1615687200 by rw [us_A21], us_ahead, us_B20]
  unfold uniT
  rw [h, us_A21]
  decide
theorem us_on : forceR usL (-18000) 1615705200 = (3600, ⟨#[68]⟩) := by
  have h : lastO usL (-18000) 1615705200 = some (turnT usA 2021) := latestO_of ⟨0, 2021, us_tA21, by show uniT usL (-18000) (turnT usA 2021) ≤ _; rw [us_uni]; decide, fun j z u hu pu => by
    have pu' : uniT usL (-18000) u ≤ 1615705200 := pu
    have n := uniT_near us_fit (off := -18000) (by decide) (by decide) u
    rw [us_A21]
    show u.at_ < 1615687200 ∨ (u.at_ = 1615687200 ∧ j ≤ 0)
    rcases us_all hu with h | ⟨_, h⟩ | ⟨h0, h⟩ | ⟨h0, h⟩ | h
    · omega
    · omega
    · omega
    · right; rw [h, us_A21]; exact ⟨rfl, by omega⟩
    · omega⟩
  unfold forceR
  rw [h, us_A21]
theorem us_off : forceR usL (-18000) 1615705199 = (0, ⟨#[83]⟩) := by
  have n0 := uniT_near us_fit (off := -18000) (by decide) (by decide) (turnT usB 2020)
  rw [us_B20] at n0
  simp only at n0
  have h : lastO usL (-18000) 1615705199 = some (turnT usB 2020) := latestO_of ⟨1, 2020, us_tB20, by show uniT usL (-18000) (turnT usB 2020) ≤ _; rw [us_B20]; omega, fun j z u hu pu => by
    have pu' : uniT usL (-18000) u ≤ 1615705199 := pu
    have n := uniT_near us_fit (off := -18000) (by decide) (by decide) u
    rw [us_B20]
    show u.at_ < 1604196000 ∨ (u.at_ = 1604196000 ∧ j ≤ 1)
    rcases us_all hu with h | ⟨_, h⟩ | ⟨h0, h⟩ | ⟨h0, h⟩ | h
    · omega
    · omega
    · omega
    · rw [h, us_uni] at pu'; exact absurd pu' (by decide)
    · omega⟩
  unfold forceR
  rw [h, us_B20]
end Go.Proofs.YtkkdclibbdeejaaDoor
/- Layer 11: are two turns near to one another, however far behind? is a set crowded? No program here. -/
namespace Go.Proofs.YtkkdclibbdeejaaDoor
open Go.RowKit
/-- do two turns of a set lie near to one another? -/
def nearT (t u : Tn) : Prop := -172800 < t.at_ - u.at_ ∧ t.at_ - u.at_ < 172800
def nearP (L : List Rl) : Prop := ∃ i j y z t u, isTurn L i y t ∧ isTurn L j z u ∧ (i ≠ j ∨ y ≠ z) ∧ nearT t u
theorem leap_400 (y : Int) : leap (y + 400) ↔ leap y := by unfold leap; omega
theorem onDay_400 (x : Sp) (y : Int) : onDay x (y + 400) = onDay x y + 146097 := by
  have e1 : ∀ m, cum (y + 400) m = cum y m := fun m => by unfold cum; simp only [leap_400]
  have e2 : ∀ m, lenM (y + 400) m = lenM y m := fun m => by unfold lenM; simp only [leap_400]
  have e3 : ∀ m d, numD (y + 400) m d = numD y m d + 146097 := fun m d => by unfold numD; rw [e1, jan_400]; omega
  unfold onDay
  rw [e2, e3]
  split
  · omega
  · split
    · unfold downTo wday; omega
    · split
      · unfold upTo wday; omega
      · unfold downTo wday; omega
/-- turns that lie near are of one year, or of years next to one another -/
theorem near_years {x x' : Rl} {y z : Int} (h : turnIn x y) (k : turnIn x' z) (n : nearT (turnT x y) (turnT x' z)) : y - 1 ≤ z ∧ z ≤ y + 1 := by
  have a := turn_year h
  have b := turn_year k
  unfold nearT at n
  constructor
  · by_cases l : y - 1 ≤ z
    · exact l
    · have := jan_lt (a := z + 1) (b := y) (by omega); omega
  · by_cases l : z ≤ y + 1
    · exact l
    · have := jan_lt (a := y + 1) (b := z) (by omega); omega
end Go.Proofs.YtkkdclibbdeejaaDoor
/- Layer 11: how many rules of a set are in force at most in a year. No program here. -/
namespace Go.Proofs.YtkkdclibbdeejaaDoor
open Go.RowKit
/-- how many rules are in force in a year -/
def countY (L : List Rl) (y : Int) : Nat := L.countP (fun x => decide (x.fr ≤ y ∧ y ≤ x.last))
def crowdP (L : List Rl) : Prop := ∃ y, 10 < countY L y
/-- the greatest first year of some rules -/
theorem top_rule (y : Int) : ∀ L : List Rl, 0 < countY L y → ∃ x ∈ L, (x.fr ≤ y ∧ y ≤ x.last) ∧ ∀ z ∈ L, (z.fr ≤ y ∧ y ≤ z.last) → z.fr ≤ x.fr
  | [], h => by simp [countY] at h
  | c :: r, h => by
    by_cases h0 : 0 < countY r y
    · obtain ⟨x, hx, h1, h2⟩ := top_rule y r h0
      by_cases k : (c.fr ≤ y ∧ y ≤ c.last) ∧ x.fr < c.fr
      · refine ⟨c, List.mem_cons_self .., k.1, fun z hz hzy => ?_⟩
        rcases List.mem_cons.1 hz with rfl | hz
        · exact Int.le_refl _
        · have := h2 z hz hzy; omega
      · refine ⟨x, List.mem_cons_of_mem _ hx, h1, fun z hz hzy => ?_⟩
        rcases List.mem_cons.1 hz with rfl | hz
        · by_cases l : x.fr < z.fr
          · exact absurd ⟨hzy, l⟩ k
          · omega
        · exact h2 z hz hzy
    · have hc : c.fr ≤ y ∧ y ≤ c.last := by
        unfold countY at h h0
        rw [List.countP_cons] at h
        by_cases k : c.fr ≤ y ∧ y ≤ c.last
        · exact k
        · rw [if_neg (by simpa using k)] at h; omega
      refine ⟨c, List.mem_cons_self .., hc, fun z hz hzy => ?_⟩
      rcases List.mem_cons.1 hz with rfl | hz
      · exact Int.le_refl _
      · exact absurd (List.countP_pos_iff.2 ⟨z, hz, by simpa using hzy⟩) h0
end Go.Proofs.YtkkdclibbdeejaaDoor
/- Stage 11's laws: what package rules answers (RulesP, under a premise Q on memory that calls keep). -/
namespace Go.Proofs.YtkkdclibbdeejaaDoor
open Go.RowKit
/-- a set of rules in memory -/
abbrev RulV (w : World) (A : Option Addr) (n c : Nat) (L : List Rl) : Prop := Rs 11 w A n c (L.map Rl.vals)
def in64L (L : List Rl) : Prop := ∀ x ∈ L, x.in64
/-- What calls leave that answer turns, a turn and whether there is one, a number and a text. -/
def RetTn (w : World) (l : List Tn) (e : Ending) (w' : World) : Prop := ∃ A n c, e = .returned (.slice A n c) ∧ Rs 4 w' A n c (l.map Tn.vals) ∧ Below w.heap.size w w'
def RetTB (w : World) (o : Option Tn) (e : Ending) (w' : World) : Prop := e = .returned (.tuple #[(o.getD Tn.zero).val, .bool o.isSome]) ∧ Below w.heap.size w w'
def RetIS (w : World) (r : Int × ByteArray) (e : Ending) (w' : World) : Prop := e = .returned (.tuple #[.int .i64 r.1, .string r.2]) ∧ Below w.heap.size w w'
noncomputable def fitB (L : List Rl) : Bool := @decide (fitL L) (Classical.propDecidable _)
theorem fit_yes {L : List Rl} : fitB L = true ↔ fitL L := @decide_eq_true_iff _ (Classical.propDecidable _)
noncomputable def crowdB (L : List Rl) : Bool := fitB L && @decide (crowdP L) (Classical.propDecidable _)
noncomputable def nearB (L : List Rl) : Bool := (fitB L && !crowdB L) && @decide (nearP L) (Classical.propDecidable _)
noncomputable def turnsR (L : List Rl) (y : Int) : List Tn := if fitB L = true then turnsL L y else []
noncomputable def aheadR (L : List Rl) (a : Int) : Option Tn := if fitB L = true then aheadO L a else none
noncomputable def forceF (L : List Rl) (off T : Int) : Int × ByteArray := if fitB L = true ∧ -86400 < off ∧ off < 86400 then forceR L off T else (0, ⟨#[]⟩)
theorem us_fitB : fitB usL = true := fit_yes.2 us_fit
theorem us_f1 : forceF usL (-18000) 1615705200 = (3600, ⟨#[68]⟩) := by unfold forceF; rw [if_pos ⟨us_fitB, by decide, by decide⟩, us_on]
theorem us_f2 : forceF usL (-18000) 1615705199 = (0, ⟨#[83]⟩) := by unfold forceF; rw [if_pos ⟨us_fitB, by decide, by decide⟩, us_off]
theorem us_t : turnsR usL 2021 = [⟨1615687200, 0, 3600, ⟨#[68]⟩⟩, ⟨1636250400, 0, 0, ⟨#[83]⟩⟩] := by unfold turnsR; rw [if_pos us_fitB, us_turns, us_A21, us_B21]
end Go.Proofs.YtkkdclibbdeejaaDoor
/- Layer 11: what the document's loops reckon, against what is said of sets. No program here. -/
namespace Go.Proofs.YtkkdclibbdeejaaDoor
open Go.RowKit
/-- the document's year of a second -/
def yearDoc (T Y : Int) : Prop := if T < -9000000000000 then Y = -271821 else if 8640000000000 < T then Y = 275760 else if T / 86400 < -100000001 then Y = -271821 else jan Y ≤ T / 86400 ∧ T / 86400 < jan (Y + 1)
theorem yearDoc_ok {T Y : Int} (h : yearDoc T Y) : yearOk T Y := by
  unfold yearDoc at h
  split at h
  · exact .inl ⟨by omega, h⟩
  · split at h
    · exact .inr (.inl ⟨by omega, h⟩)
    · split at h
      · exact .inl ⟨by omega, h⟩
      · exact .inr (.inr ⟨by omega, by omega⟩)
end Go.Proofs.YtkkdclibbdeejaaDoor
