import Derived.Test.YtmhpnmlgfdomkaaGreatDoorZUon
import Derived.Test.YtmhpnmlgfdomkaaGreatDoorZGhs
set_option maxRecDepth 100000
set_option maxHeartbeats 64000000
namespace Go.Proofs.YtmhpnmlgfdomkaaGreatDoor
open Go.RowKit
structure Tn where
  at_ : Int
  re : Int
  save : Int
  letter : ByteArray
def Tn.zero : Tn := ⟨0, 0, 0, ⟨#[]⟩⟩
def Tn.vals (t : Tn) : List Value := [.int .i64 t.at_, .int .i64 t.re, .int .i64 t.save, .string t.letter]
def Tn.val (t : Tn) : Value := .agg t.vals.toArray
theorem Tn.ext' {a b : Tn} (h1 : a.at_ = b.at_) (h2 : a.re = b.re) (h3 : a.save = b.save) (h4 : a.letter = b.letter) : a = b := by
  cases a; cases b; simp_all
def Rl.fit (x : Rl) : Prop := (1 ≤ x.fr ∧ x.fr ≤ 9999) ∧ (1 ≤ x.last ∧ (x.last ≤ 9999 ∨ x.last = 1000000)) ∧ x.sp.ok ∧ (-43200 ≤ x.save ∧ x.save ≤ 43200)
def fitL (L : List Rl) : Prop := ∀ x ∈ L, x.fit
def turnIn (x : Rl) (y : Int) : Prop := (x.fr ≤ y ∧ y ≤ x.last) ∧ onOk x.sp y
def turnT (x : Rl) (y : Int) : Tn := ⟨loN x.sp y, x.sp.re, x.save, x.letter⟩
theorem onOk_year {x : Sp} {y : Int} (h : onOk x y) : 1 ≤ y ∧ y ≤ 275760 := ⟨h.2.1.1, (ok_year h.2.2.1).2⟩
theorem cum_top {y m : Int} (h1 : 1 ≤ m) (h2 : m ≤ 12) : 0 ≤ cum y m ∧ cum y m ≤ lenY y - 31 := by
  have c := cum_succ (y := y) (m := 12) (by omega) (by omega)
  have e := cum_end y
  have l : lenM y 12 = 31 := by unfold lenM; simp
  have r := cum_range (y := y) (m := m) h1 (by omega)
  rw [show (12 : Int) + 1 = 13 from rfl] at c
  by_cases h : m = 12
  · subst h; omega
  · have := cum_lt (y := y) (m := m) (m' := 12) h1 (by omega) (by omega)
    have := lenM_le y m
    omega
theorem onDay_near11 {x : Sp} (h : x.ok) (y : Int) : numD y x.mo 1 - 6 ≤ onDay x y ∧ onDay x y ≤ numD y x.mo 1 + 36 := by
  obtain ⟨⟨m1, m12⟩, ⟨k0, k3⟩, _, _, w0, w1, d0, d1⟩ := h
  have lm := lenM_range (y := y) m1 m12
  have h8 := @downTo_is (numD y x.mo 1 + lenM y x.mo - 1) x.wd
  have h9 := @downTo_is (numD y x.mo 1 + x.da - 1) x.wd
  have h10 := @upTo_is (numD y x.mo 1 + x.da - 1) x.wd
  unfold onDay
  split
  · omega
  · split
    · omega
    · split <;> omega
theorem onDay_year {x : Sp} (h : x.ok) (y : Int) : jan y - 6 ≤ onDay x y ∧ onDay x y ≤ jan (y + 1) + 5 := by
  obtain ⟨m1, m12⟩ := h.1
  have ct := cum_top (y := y) m1 m12
  have hj := jan_succ y
  have hn : numD y x.mo 1 = jan y + cum y x.mo := by unfold numD; omega
  have nr := onDay_near11 h y
  omega
theorem cum_leap (y z m : Int) : cum y m ≤ cum z m + 1 := by
  have a : (if leap y then (1 : Int) else 0) ≤ 1 := by split <;> omega
  have b : 0 ≤ (if leap z then (1 : Int) else 0) := by split <;> omega
  unfold cum
  by_cases h1 : m ≤ 1
  · rw [if_pos h1, if_pos h1]; omega
  rw [if_neg h1, if_neg h1]
  by_cases h2 : m = 2
  · rw [if_pos h2, if_pos h2]; omega
  rw [if_neg h2, if_neg h2]
  generalize (if m = 3 then (59 : Int) else if m = 4 then 90 else if m = 5 then 120 else if m = 6 then 151 else if m = 7 then 181 else if m = 8 then 212 else if m = 9 then 243 else if m = 10 then 273 else if m = 11 then 304 else if m = 12 then 334 else 365) = q
  omega
theorem onDay_next {x : Sp} (h : x.ok) {y z : Int} (l : y < z) : onDay x y + 320 ≤ onDay x z := by
  have a := onDay_near11 h y
  have b := onDay_near11 h z
  obtain ⟨m1, m12⟩ := h.1
  have e1 : numD y x.mo 1 = jan y + cum y x.mo := by unfold numD; omega
  have e2 : numD z x.mo 1 = jan z + cum z x.mo := by unfold numD; omega
  have j := jan_lt l
  have c := cum_leap y z x.mo
  omega
theorem turn_at {x : Rl} {y : Int} (h : turnIn x y) : (turnT x y).at_ = onDay x.sp y * 86400 + x.sp.ti := by
  unfold turnT loN
  rw [if_pos h.2]
theorem turn_year {x : Rl} {y : Int} (h : turnIn x y) : 86400 * (jan y - 6) - 604799 ≤ (turnT x y).at_ ∧ (turnT x y).at_ ≤ 86400 * (jan (y + 1) + 5) + 604799 := by
  have a := onDay_year h.2.1 y
  have t := h.2.1.2.2.1
  rw [turn_at h]
  omega
theorem turn_next {x : Rl} {y z : Int} (h : turnIn x y) (k : turnIn x z) (l : y < z) : (turnT x y).at_ + 20000000 < (turnT x z).at_ := by
  have a := onDay_next h.2.1 l
  rw [turn_at h, turn_at k]
  omega
theorem turn_same {x : Rl} {y z : Int} (h : turnIn x y) (k : turnIn x z) (e : (turnT x y).at_ = (turnT x z).at_) : y = z := by
  rcases Int.lt_trichotomy y z with l | l | l
  · have := turn_next h k l; omega
  · exact l
  · have := turn_next k h l; omega
theorem turn_is {x : Rl} (hx : x.fit) {y : Int} (h : x.fr ≤ y ∧ y ≤ x.last) (h2 : y ≤ 275700) : turnIn x y := by
  refine ⟨h, hx.2.2.1, ⟨by have := hx.1.1; omega, by omega⟩, ?_, ?_⟩
  · obtain ⟨m1, m12⟩ := hx.2.2.1.1
    have ct := cum_top (y := y) m1 m12
    have lm := lenM_range (y := y) m1 m12
    have e1 : numD y x.sp.mo 1 = jan y + cum y x.sp.mo := by unfold numD; omega
    have b := jan_le (a := 1) (b := y) (by have := hx.1.1; omega)
    have b2 := jan_le (a := y) (b := 275700) h2
    have c1 : jan 1 = -719162 := by decide
    have c2 : jan 275700 = 99977830 := by decide
    have l := lenY_range y
    exact ⟨⟨m1, m12, by omega, by omega⟩, by omega, by omega⟩
  · have a := (onDay_year hx.2.2.1 y).2
    have b2 := jan_le (a := y + 1) (b := 275701) (by omega)
    have c2 : jan 275701 = 99978195 := by decide
    omega
def isTurn (L : List Rl) (i : Nat) (y : Int) (t : Tn) : Prop := ∃ x, L[i]? = some x ∧ turnIn x y ∧ t = turnT x y
def Latest (L : List Rl) (P : Tn → Prop) : Option Tn → Prop
  | none => ∀ i y t, isTurn L i y t → ¬ P t
  | some t => ∃ i y, isTurn L i y t ∧ P t ∧ ∀ j z u, isTurn L j z u → P u → u.at_ < t.at_ ∨ (u.at_ = t.at_ ∧ j ≤ i)
theorem Latest.one {L : List Rl} {P : Tn → Prop} {a b : Option Tn} (h : Latest L P a) (k : Latest L P b) : a = b := by
  cases a with
  | none =>
    cases b with
    | none => rfl
    | some t => obtain ⟨i, y, h1, h2, _⟩ := k; exact absurd h2 (h i y t h1)
  | some t =>
    cases b with
    | none => obtain ⟨i, y, h1, h2, _⟩ := h; exact absurd h2 (k i y t h1)
    | some u =>
      obtain ⟨i, y, h1, h2, h3⟩ := h
      obtain ⟨j, z, k1, k2, k3⟩ := k
      have a := h3 j z u k1 k2
      have b := k3 i y t h1 h2
      have e : u.at_ = t.at_ := by omega
      obtain rfl : i = j := by omega
      obtain ⟨x, hx, hy, rfl⟩ := h1
      obtain ⟨x', hx', hz, rfl⟩ := k1
      rw [hx] at hx'
      cases hx'
      rw [turn_same hz hy e]
def LatestOf (x : Rl) (P : Tn → Prop) : Option Int → Prop
  | none => ∀ y, turnIn x y → ¬ P (turnT x y)
  | some y => turnIn x y ∧ P (turnT x y) ∧ ∀ z, turnIn x z → P (turnT x z) → z ≤ y
theorem take_at {α : Type} {L : List α} {k i : Nat} (h : i < k) : (L.take k)[i]? = L[i]? := by rw [List.getElem?_take, if_pos h]
theorem Latest.zero (L : List Rl) (P : Tn → Prop) : Latest (L.take 0) P none := fun i y t ⟨x, hx, _⟩ => by simp at hx
theorem Latest.next {L : List Rl} {P : Tn → Prop} {k : Nat} {x : Rl} (hx : L[k]? = some x) {b : Option Tn} (h : Latest (L.take k) P b) {r : Option Int} (hr : LatestOf x P r) :
    Latest (L.take (k + 1)) P (match r with | none => b | some y => match b with | none => some (turnT x y) | some t => if t.at_ ≤ (turnT x y).at_ then some (turnT x y) else some t) := by
  have old : ∀ {i y t}, isTurn (L.take (k + 1)) i y t → isTurn (L.take k) i y t ∨ (i = k ∧ turnIn x y ∧ t = turnT x y) := fun {i y t} ⟨x', hx', ht⟩ => by
    have hi : i < k + 1 := by
      have := (List.getElem?_eq_some_iff.1 hx').1
      rw [List.length_take] at this
      omega
    rw [take_at hi] at hx'
    by_cases e : i = k
    · subst e
      rw [hx] at hx'
      cases hx'
      exact .inr ⟨rfl, ht⟩
    · exact .inl ⟨x', by rw [take_at (by omega)]; exact hx', ht⟩
  have up : ∀ {i y t}, isTurn (L.take k) i y t → i < k ∧ isTurn (L.take (k + 1)) i y t := fun {i y t} ⟨x', hx', ht⟩ => by
    have hi : i < k := by
      have := (List.getElem?_eq_some_iff.1 hx').1
      rw [List.length_take] at this
      omega
    rw [take_at hi] at hx'
    exact ⟨hi, x', by rw [take_at (by omega)]; exact hx', ht⟩
  have new : ∀ {y}, turnIn x y → isTurn (L.take (k + 1)) k y (turnT x y) := fun {y} hy => ⟨x, by rw [take_at (by omega)]; exact hx, hy, rfl⟩
  cases r with
  | none =>
    cases b with
    | none =>
      intro i y t ht
      rcases old ht with h1 | ⟨rfl, h1, rfl⟩
      · exact h i y t h1
      · exact hr y h1
    | some t =>
      obtain ⟨i, y, h1, h2, h3⟩ := h
      refine ⟨i, y, (up h1).2, h2, fun j z u hu pu => ?_⟩
      rcases old hu with k1 | ⟨rfl, k1, rfl⟩
      · exact h3 j z u k1 pu
      · exact absurd pu (hr z k1)
  | some y =>
    obtain ⟨r1, r2, r3⟩ := hr
    have below : ∀ z, turnIn x z → P (turnT x z) → (turnT x z).at_ ≤ (turnT x y).at_ := fun z hz pz => by
      rcases Int.lt_or_eq_of_le (r3 z hz pz) with l | l
      · have := turn_next hz r1 l; omega
      · rw [l]; exact Int.le_refl _
    cases b with
    | none =>
      refine ⟨k, y, new r1, r2, fun j z u hu pu => ?_⟩
      rcases old hu with k1 | ⟨rfl, k1, rfl⟩
      · exact absurd pu (h j z u k1)
      · have := below z k1 pu; omega
    | some t =>
      obtain ⟨i, y0, h1, h2, h3⟩ := h
      dsimp only
      by_cases c : t.at_ ≤ (turnT x y).at_
      · rw [if_pos c]
        refine ⟨k, y, new r1, r2, fun j z u hu pu => ?_⟩
        rcases old hu with k1 | ⟨rfl, k1, rfl⟩
        · have := h3 j z u k1 pu
          have := (up k1).1
          omega
        · have := below z k1 pu; omega
      · rw [if_neg c]
        refine ⟨i, y0, (up h1).2, h2, fun j z u hu pu => ?_⟩
        rcases old hu with k1 | ⟨rfl, k1, rfl⟩
        · exact h3 j z u k1 pu
        · have := below z k1 pu; omega
theorem latestOf_ex (x : Rl) (P : Tn → Prop) : ∃ r, LatestOf x P r := by
  have go : ∀ (n : Nat) (y : Int), (∀ z, turnIn x z → P (turnT x z) → z ≤ y) → y ≤ n → ∃ r, LatestOf x P r := by
    intro n
    induction n with
    | zero =>
      intro y h hn
      refine ⟨none, fun z hz pz => ?_⟩
      have := h z hz pz
      have := (onOk_year hz.2).1
      omega
    | succ n ih =>
      intro y h hn
      by_cases c : turnIn x y ∧ P (turnT x y)
      · exact ⟨some y, c.1, c.2, h⟩
      · refine ih (y - 1) (fun z hz pz => ?_) (by omega)
        have a := h z hz pz
        have b : z ≠ y := fun e => c (e ▸ ⟨hz, pz⟩)
        omega
  exact go 275760 275760 (fun z hz _ => (onOk_year hz.2).2) (by omega)
theorem latest_ex (L : List Rl) (P : Tn → Prop) : ∃ r, Latest L P r := by
  have go : ∀ k, k ≤ L.length → ∃ r, Latest (L.take k) P r := by
    intro k
    induction k with
    | zero => intro _; exact ⟨none, Latest.zero L P⟩
    | succ k ih =>
      intro hk
      obtain ⟨b, hb⟩ := ih (by omega)
      obtain ⟨r, hr⟩ := latestOf_ex L[k] P
      exact ⟨_, hb.next (List.getElem?_eq_getElem (by omega)) hr⟩
  obtain ⟨r, hr⟩ := go L.length (Nat.le_refl _)
  rw [List.take_length] at hr
  exact ⟨r, hr⟩
noncomputable def latestO (L : List Rl) (P : Tn → Prop) : Option Tn := Classical.choose (latest_ex L P)
theorem latestO_is (L : List Rl) (P : Tn → Prop) : Latest L P (latestO L P) := Classical.choose_spec (latest_ex L P)
theorem latestO_of {L : List Rl} {P : Tn → Prop} {r : Option Tn} (h : Latest L P r) : latestO L P = r := (latestO_is L P).one h
noncomputable def aheadO (L : List Rl) (a : Int) : Option Tn := latestO L (fun t => t.at_ < a)
noncomputable def aheadSave (L : List Rl) (a : Int) : Int := match aheadO L a with | none => 0 | some t => t.save
theorem latest_in {L : List Rl} {P : Tn → Prop} {t : Tn} (h : latestO L P = some t) : ∃ i y, isTurn L i y t ∧ P t := by
  have := latestO_is L P
  rw [h] at this
  obtain ⟨i, y, h1, h2, _⟩ := this
  exact ⟨i, y, h1, h2⟩
theorem turn_fit {L : List Rl} (hL : fitL L) {i : Nat} {y : Int} {t : Tn} (h : isTurn L i y t) : (-43200 ≤ t.save ∧ t.save ≤ 43200) ∧ (0 ≤ t.re ∧ t.re ≤ 2) := by
  obtain ⟨x, hx, _, rfl⟩ := h
  have f := hL x (List.mem_of_getElem? hx)
  exact ⟨f.2.2.2, f.2.2.1.2.2.2.1⟩
theorem aheadSave_in {L : List Rl} (hL : fitL L) (a : Int) : -43200 ≤ aheadSave L a ∧ aheadSave L a ≤ 43200 := by
  unfold aheadSave
  cases e : aheadO L a with
  | none => exact ⟨by decide, by decide⟩
  | some t =>
    obtain ⟨i, y, h, _⟩ := latest_in e
    exact (turn_fit hL h).1
def yearOk (T Y : Int) : Prop := (T < -8640000000000 ∧ Y = -271821) ∨ (8640000000000 < T ∧ Y = 275760) ∨ (jan Y * 86400 ≤ T ∧ T < jan (Y + 1) * 86400)
theorem year_top {T Y : Int} (h : yearOk T Y) {x : Rl} {y : Int} (hy : turnIn x y) (l : Y + 2 < y) : T + 200000 < (turnT x y).at_ := by
  have t := (turn_year hy).1
  have y1 := onOk_year hy.2
  have j1 := jan_le y1.1
  have c1 : jan 1 = -719162 := by decide
  rcases h with ⟨h, rfl⟩ | ⟨h, rfl⟩ | ⟨h1, h2⟩
  · omega
  · omega
  · have a := jan_lt (a := Y + 1) (b := Y + 2) (by omega)
    have b := jan_lt (a := Y + 2) (b := y) (by omega)
    omega
def noneFrom (x : Rl) (P : Tn → Prop) (y : Int) : Prop := ∀ z, turnIn x z → y < z → ¬ P (turnT x z)
theorem noneFrom_top {x : Rl} {P : Tn → Prop} {T Y : Int} (h : yearOk T Y) (hP : ∀ t : Tn, P t → t.at_ ≤ T + 200000) : noneFrom x P (min x.last (Y + 2)) := fun z hz l p => by
  by_cases c : x.last < z
  · have := hz.1.2; omega
  · have := year_top h hz (by omega)
    have := hP _ p
    omega
theorem noneFrom_next {x : Rl} {P : Tn → Prop} {y : Int} (h : noneFrom x P y) (k : ¬ (turnIn x y ∧ P (turnT x y))) : noneFrom x P (y - 1) := fun z hz l p => by
  by_cases c : y < z
  · exact h z hz c p
  · obtain rfl : z = y := by omega
    exact k ⟨hz, p⟩
theorem noneFrom_all {x : Rl} {P : Tn → Prop} {y : Int} (h : noneFrom x P y) (l : y < x.fr) : LatestOf x P none := fun z hz p => h z hz (by have := hz.1.1; omega) p
theorem noneFrom_hit {x : Rl} {P : Tn → Prop} {y : Int} (h : noneFrom x P y) (h1 : turnIn x y) (h2 : P (turnT x y)) : LatestOf x P (some y) := ⟨h1, h2, fun z hz p => by
  by_cases c : y < z
  · exact absurd p (h z hz c)
  · omega⟩
instance (x : Rl) (y : Int) : Decidable (turnIn x y) := by unfold turnIn; infer_instance
def cutK (t : Tn) (l : List Tn) : Nat → Nat
  | 0 => 0
  | k + 1 => if t.at_ < (l.getD k Tn.zero).at_ then cutK t l k else k + 1
def insT (t : Tn) (l : List Tn) : List Tn := l.take (cutK t l l.length) ++ [t] ++ l.drop (cutK t l l.length)
theorem insT_perm (t : Tn) (l : List Tn) : (insT t l).Perm (t :: l) := by
  unfold insT
  rw [List.append_assoc]
  have := @List.perm_middle _ t (l.take (cutK t l l.length)) (l.drop (cutK t l l.length))
  rw [List.take_append_drop] at this
  exact this
def turnsGo (y : Int) : List Rl → List Tn → List Tn
  | [], out => out
  | x :: r, out => turnsGo y r (if turnIn x y then insT (turnT x y) out else out)
def turnsL (L : List Rl) (y : Int) : List Tn := turnsGo y L []
def baseT (L : List Rl) (y : Int) : List Tn := (L.filter (fun x => decide (turnIn x y))).map (fun x => turnT x y)
theorem turnsGo_perm (y : Int) : ∀ (L : List Rl) (out : List Tn), (turnsGo y L out).Perm (baseT L y ++ out)
  | [], out => List.Perm.refl _
  | x :: r, out => by
    unfold turnsGo baseT
    by_cases h : turnIn x y
    · rw [if_pos h, List.filter_cons_of_pos (by simpa using h), List.map_cons]
      refine (turnsGo_perm y r _).trans ?_
      refine (List.Perm.append_left _ (insT_perm _ _)).trans ?_
      exact List.perm_middle
    · rw [if_neg h, List.filter_cons_of_neg (by simpa using h)]
      exact turnsGo_perm y r out
theorem turnsL_perm (L : List Rl) (y : Int) : (turnsL L y).Perm (baseT L y) := by
  have := turnsGo_perm y L []
  rwa [List.append_nil] at this
theorem turnsL_mem {L : List Rl} {y : Int} {t : Tn} : t ∈ turnsL L y ↔ ∃ i, isTurn L i y t := by
  rw [(turnsL_perm L y).mem_iff]
  unfold baseT
  rw [List.mem_map]
  constructor
  · rintro ⟨x, hx, rfl⟩
    rw [List.mem_filter] at hx
    obtain ⟨i, hi, e⟩ := List.mem_iff_getElem.1 hx.1
    exact ⟨i, x, by rw [List.getElem?_eq_getElem hi, e], by simpa using hx.2, rfl⟩
  · rintro ⟨i, x, hx, ht, rfl⟩
    exact ⟨x, List.mem_filter.2 ⟨List.mem_of_getElem? hx, by simpa using ht⟩, rfl⟩
theorem perm_pair {α : Type} {l l' : List α} (h : l.Perm l') : ∀ {i j : Nat} {a b : α}, l[i]? = some a → l[j]? = some b → i ≠ j → ∃ p q : Nat, p ≠ q ∧ l'[p]? = some a ∧ l'[q]? = some b := by
  induction h with
  | nil => intro i j a b h _ _; simp at h
  | cons c h ih =>
    intro i j a b hi hj ne
    cases i with
    | zero =>
      cases j with
      | zero => exact absurd rfl ne
      | succ j =>
        have hj' := (h.mem_iff (a := b)).1 (List.mem_of_getElem? (by simpa using hj))
        obtain ⟨q, hq⟩ := List.getElem?_of_mem hj'
        exact ⟨0, q + 1, by omega, hi, by simpa using hq⟩
    | succ i =>
      cases j with
      | zero =>
        have hi' := (h.mem_iff (a := a)).1 (List.mem_of_getElem? (by simpa using hi))
        obtain ⟨q, hq⟩ := List.getElem?_of_mem hi'
        exact ⟨q + 1, 0, by omega, by simpa using hq, hj⟩
      | succ j =>
        obtain ⟨p, q, n, h1, h2⟩ := ih (i := i) (j := j) (by simpa using hi) (by simpa using hj) (by omega)
        exact ⟨p + 1, q + 1, by omega, by simpa using h1, by simpa using h2⟩
  | swap x y l =>
    intro i j a b hi hj ne
    have sw : ∀ {k : Nat} {c : α}, (y :: x :: l)[k]? = some c → (x :: y :: l)[if k = 0 then 1 else if k = 1 then 0 else k]? = some c := fun {k c} h => by
      match k, h with
      | 0, h => simpa using h
      | 1, h => simpa using h
      | k + 2, h => simpa using h
    exact ⟨_, _, by split <;> split <;> (try split) <;> (try split) <;> omega, sw hi, sw hj⟩
  | trans _ _ ih1 ih2 =>
    intro i j a b hi hj ne
    obtain ⟨p, q, n, h1, h2⟩ := ih1 hi hj ne
    exact ih2 h1 h2 n
theorem filter_pair {α : Type} {f : α → Bool} : ∀ {L : List α} {p q : Nat} {a b : α}, (L.filter f)[p]? = some a → (L.filter f)[q]? = some b → p ≠ q → ∃ i j : Nat, i ≠ j ∧ L[i]? = some a ∧ L[j]? = some b ∧ f a = true ∧ f b = true
  | [], p, q, a, b, h, _, _ => by simp at h
  | c :: r, p, q, a, b, hp, hq, ne => by
    by_cases hc : f c = true
    · rw [List.filter_cons_of_pos hc] at hp hq
      have mem : ∀ {k : Nat} {d : α}, (r.filter f)[k]? = some d → ∃ i, r[i]? = some d ∧ f d = true := fun {k d} h => by
        have := List.mem_filter.1 (List.mem_of_getElem? h)
        obtain ⟨i, hi⟩ := List.getElem?_of_mem this.1
        exact ⟨i, hi, this.2⟩
      cases p with
      | zero =>
        have e : c = a := by simpa using hp
        subst e
        cases q with
        | zero => exact absurd rfl ne
        | succ q =>
          obtain ⟨j, hj, fb⟩ := mem (by simpa using hq)
          exact ⟨0, j + 1, by omega, rfl, by simpa using hj, hc, fb⟩
      | succ p =>
        cases q with
        | zero =>
          have e : c = b := by simpa using hq
          subst e
          obtain ⟨j, hj, fb⟩ := mem (by simpa using hp)
          exact ⟨j + 1, 0, by omega, by simpa using hj, rfl, fb, hc⟩
        | succ q =>
          obtain ⟨i, j, n, h1, h2, h3⟩ := filter_pair (L := r) (p := p) (q := q) (by simpa using hp) (by simpa using hq) (by omega)
          exact ⟨i + 1, j + 1, by omega, by simpa using h1, by simpa using h2, h3⟩
    · rw [List.filter_cons_of_neg hc] at hp hq
      obtain ⟨i, j, n, h1, h2, h3⟩ := filter_pair (L := r) hp hq ne
      exact ⟨i + 1, j + 1, by omega, by simpa using h1, by simpa using h2, h3⟩
theorem pair_filter {α : Type} {f : α → Bool} : ∀ {L : List α} {i j : Nat} {a b : α}, L[i]? = some a → L[j]? = some b → i ≠ j → f a = true → f b = true → ∃ p q : Nat, p ≠ q ∧ (L.filter f)[p]? = some a ∧ (L.filter f)[q]? = some b
  | [], i, j, a, b, h, _, _, _, _ => by simp at h
  | c :: r, i, j, a, b, hi, hj, ne, fa, fb => by
    have mem : ∀ {k : Nat} {d : α}, r[k]? = some d → f d = true → ∃ i, (r.filter f)[i]? = some d := fun {k d} h hd => List.getElem?_of_mem (List.mem_filter.2 ⟨List.mem_of_getElem? h, hd⟩)
    by_cases hc : f c = true
    · rw [List.filter_cons_of_pos hc]
      cases i with
      | zero =>
        have e : c = a := by simpa using hi
        subst e
        cases j with
        | zero => exact absurd rfl ne
        | succ j =>
          obtain ⟨q, hq⟩ := mem (by simpa using hj) fb
          exact ⟨0, q + 1, by omega, rfl, by simpa using hq⟩
      | succ i =>
        cases j with
        | zero =>
          have e : c = b := by simpa using hj
          subst e
          obtain ⟨q, hq⟩ := mem (by simpa using hi) fa
          exact ⟨q + 1, 0, by omega, by simpa using hq, rfl⟩
        | succ j =>
          obtain ⟨p, q, n, h1, h2⟩ := pair_filter (L := r) (i := i) (j := j) (by simpa using hi) (by simpa using hj) (by omega) fa fb
          exact ⟨p + 1, q + 1, by omega, by simpa using h1, by simpa using h2⟩
    · rw [List.filter_cons_of_neg hc]
      cases i with
      | zero =>
        have e : c = a := by simpa using hi
        subst e
        exact absurd fa hc
      | succ i =>
        cases j with
        | zero =>
          have e : c = b := by simpa using hj
          subst e
          exact absurd fb hc
        | succ j => exact pair_filter (L := r) (i := i) (j := j) (by simpa using hi) (by simpa using hj) (by omega) fa fb
theorem turns_pair {L : List Rl} {y : Int} {t u : Tn} : (∃ p q : Nat, p ≠ q ∧ (turnsL L y)[p]? = some t ∧ (turnsL L y)[q]? = some u) ↔ ∃ i j : Nat, i ≠ j ∧ isTurn L i y t ∧ isTurn L j y u := by
  constructor
  · rintro ⟨p, q, ne, hp, hq⟩
    obtain ⟨p, q, ne, hp, hq⟩ := perm_pair (turnsL_perm L y) hp hq ne
    unfold baseT at hp hq
    rw [List.getElem?_map] at hp hq
    obtain ⟨x, hx, rfl⟩ := Option.map_eq_some_iff.1 hp
    obtain ⟨x', hx', rfl⟩ := Option.map_eq_some_iff.1 hq
    obtain ⟨i, j, n, h1, h2, h3, h4⟩ := filter_pair hx hx' ne
    exact ⟨i, j, n, ⟨x, h1, by simpa using h3, rfl⟩, ⟨x', h2, by simpa using h4, rfl⟩⟩
  · rintro ⟨i, j, ne, ⟨x, hx, tx, rfl⟩, ⟨x', hx', tx', rfl⟩⟩
    obtain ⟨p, q, n, h1, h2⟩ := pair_filter (f := fun x => decide (turnIn x y)) hx hx' ne (by simpa using tx) (by simpa using tx')
    refine perm_pair (turnsL_perm L y).symm (i := p) (j := q) ?_ ?_ n
    · unfold baseT; rw [List.getElem?_map, h1]; rfl
    · unfold baseT; rw [List.getElem?_map, h2]; rfl
def nearT (t u : Tn) : Prop := -172800 < t.at_ - u.at_ ∧ t.at_ - u.at_ < 172800
def nearP (L : List Rl) : Prop := ∃ i j y z t u, isTurn L i y t ∧ isTurn L j z u ∧ (i ≠ j ∨ y ≠ z) ∧ nearT t u
theorem leap_400 (y : Int) : leap (y + 400) ↔ leap y := by unfold leap; omega
theorem onDay_400 (x : Sp) (y : Int) : onDay x (y + 400) = onDay x y + 146097 := by
  have e1 : ∀ m, cum (y + 400) m = cum y m := fun m => by unfold cum; simp only [leap_400]
  have e2 : ∀ m, lenM (y + 400) m = lenM y m := fun m => by unfold lenM; simp only [leap_400]
  have e3 : ∀ m d, numD (y + 400) m d = numD y m d + 146097 := fun m d => by unfold numD; rw [e1, jan_400]; omega
  unfold onDay
  rw [e2, e3]
  split
  · omega
  · split
    · unfold downTo wday; omega
    · split
      · unfold upTo wday; omega
      · unfold downTo wday; omega
theorem turn_400 {x : Rl} {y : Int} (h : turnIn x y) (k : turnIn x (y + 400)) : (turnT x (y + 400)).at_ = (turnT x y).at_ + 12622780800 := by
  rw [turn_at h, turn_at k, onDay_400]
  omega
theorem near_years {x x' : Rl} {y z : Int} (h : turnIn x y) (k : turnIn x' z) (n : nearT (turnT x y) (turnT x' z)) : y - 1 ≤ z ∧ z ≤ y + 1 := by
  have a := turn_year h
  have b := turn_year k
  unfold nearT at n
  constructor
  · by_cases l : y - 1 ≤ z
    · exact l
    · have := jan_lt (a := z + 1) (b := y) (by omega); omega
  · by_cases l : z ≤ y + 1
    · exact l
    · have := jan_lt (a := y + 1) (b := z) (by omega); omega
def yearsTo (L : List Rl) (hi : Int) : Prop := hi ≤ 9999 ∧ ∀ x ∈ L, x.fr ≤ hi ∧ (x.last = 1000000 ∨ x.last ≤ hi)
theorem back_400 {L : List Rl} (hL : fitL L) {hi : Int} (hh : yearsTo L hi) {i : Nat} {y : Int} {t : Tn} (h : isTurn L i y t) (c : Nat) (l : hi < y - 400 * c) : ∃ x, L[i]? = some x ∧ turnIn x (y - 400 * c) ∧ (turnT x (y - 400 * c)).at_ = t.at_ - 12622780800 * c := by
  obtain ⟨x, hx, ht, rfl⟩ := h
  have m := List.mem_of_getElem? hx
  have f := hL x m
  have yt := (onOk_year ht.2).2
  refine ⟨x, hx, ?_⟩
  have go : ∀ c : Nat, hi < y - 400 * c → turnIn x (y - 400 * c) ∧ (turnT x (y - 400 * c)).at_ = (turnT x y).at_ - 12622780800 * c := by
    intro c
    induction c with
    | zero => intro _; simp only [Int.natCast_zero, Int.mul_zero, Int.sub_zero]; exact ⟨ht, trivial⟩
    | succ c ih =>
      intro l
      obtain ⟨h1, h2⟩ := ih (by omega)
      have e : y - 400 * ((c : Int) + 1) + 400 = y - 400 * c := by omega
      have inn : turnIn x (y - 400 * ((c : Int) + 1)) := turn_is f ⟨by have := (hh.2 x m).1; omega, by have := ht.1.2; omega⟩ (by omega)
      have := turn_400 inn (by rw [e]; exact h1)
      rw [e, h2] at this
      refine ⟨by push_cast; exact inn, ?_⟩
      push_cast
      omega
  exact go c l
theorem near_found {L : List Rl} (hL : fitL L) {lo hi : Int} (hlo : ∀ x ∈ L, lo ≤ x.fr) (hh : yearsTo L hi) (n : nearP L) :
    ∃ y, lo ≤ y ∧ y ≤ hi + 402 ∧ ∃ t u, nearT t u ∧ ((t ∈ turnsL L (y - 1) ∧ u ∈ turnsL L y) ∨ ∃ i j : Nat, i ≠ j ∧ isTurn L i y t ∧ isTurn L j y u) := by
  have sym : ∀ {t u : Tn}, nearT t u → nearT u t := fun h => by unfold nearT at *; omega
  -- the later year second
  have key : ∀ i j y z t u, isTurn L i y t → isTurn L j z u → (i ≠ j ∨ y ≠ z) → nearT t u → y ≤ z → ∃ y, lo ≤ y ∧ y ≤ hi + 402 ∧ ∃ t u, nearT t u ∧ ((t ∈ turnsL L (y - 1) ∧ u ∈ turnsL L y) ∨ ∃ i j : Nat, i ≠ j ∧ isTurn L i y t ∧ isTurn L j y u) := by
    intro i j y z t u h1 h2 ne nt le
    have yz : z ≤ y + 1 := by
      obtain ⟨x, _, tx, rfl⟩ := h1
      obtain ⟨x', _, tx', rfl⟩ := h2
      exact (near_years tx tx' nt).2
    -- within the years
    have fin : ∀ y z t u, isTurn L i y t → isTurn L j z u → (i ≠ j ∨ y ≠ z) → nearT t u → y ≤ z → z ≤ y + 1 → z ≤ hi + 402 → ∃ y, lo ≤ y ∧ y ≤ hi + 402 ∧ ∃ t u, nearT t u ∧ ((t ∈ turnsL L (y - 1) ∧ u ∈ turnsL L y) ∨ ∃ i j : Nat, i ≠ j ∧ isTurn L i y t ∧ isTurn L j y u) := by
      intro y z t u h1 h2 ne nt le yz top
      have lz : lo ≤ z := by
        obtain ⟨x', hx', tx', rfl⟩ := h2
        have := hlo x' (List.mem_of_getElem? hx')
        have := tx'.1.1
        omega
      refine ⟨z, lz, top, t, u, nt, ?_⟩
      by_cases e : y = z
      · subst e
        exact .inr ⟨i, j, by omega, h1, h2⟩
      · obtain rfl : y = z - 1 := by omega
        exact .inl ⟨turnsL_mem.2 ⟨i, h1⟩, turnsL_mem.2 ⟨j, h2⟩⟩
    by_cases top : z ≤ hi + 402
    · exact fin y z t u h1 h2 ne nt le yz top
    · -- some times 400 years back
      obtain ⟨c, c1, c2⟩ : ∃ c : Nat, hi + 2 < z - 400 * c ∧ z - 400 * c ≤ hi + 402 := ⟨((z - hi - 3) / 400).toNat, by omega, by omega⟩
      obtain ⟨x, hx, tx, ax⟩ := back_400 hL hh h1 c (by omega)
      obtain ⟨x', hx', tx', ax'⟩ := back_400 hL hh h2 c (by omega)
      exact fin (y - 400 * c) (z - 400 * c) (turnT x (y - 400 * c)) (turnT x' (z - 400 * c)) ⟨x, hx, tx, rfl⟩ ⟨x', hx', tx', rfl⟩ (by omega) (by unfold nearT at *; rw [ax, ax']; omega) (by omega) (by omega) c2
  obtain ⟨i, j, y, z, t, u, h1, h2, ne, nt⟩ := n
  by_cases le : y ≤ z
  · exact key i j y z t u h1 h2 ne nt le
  · exact key j i z y u t h2 h1 (by omega) (sym nt) (by omega)
def countY (L : List Rl) (y : Int) : Nat := L.countP (fun x => decide (x.fr ≤ y ∧ y ≤ x.last))
def atRule (L : List Rl) (x : Rl) : Nat := if x.fr ≤ x.last then countY L x.fr else 0
def mostGo (L : List Rl) : List Rl → Nat → Nat
  | [], m => m
  | x :: r, m => mostGo L r (if m < atRule L x then atRule L x else m)
def mostN (L : List Rl) : Nat := mostGo L L 0
def crowdP (L : List Rl) : Prop := ∃ y, 10 < countY L y
theorem mostGo_le (L : List Rl) : ∀ (r : List Rl) (m : Nat), m ≤ mostGo L r m ∧ ∀ x ∈ r, atRule L x ≤ mostGo L r m
  | [], m => ⟨Nat.le_refl _, fun x h => by cases h⟩
  | x :: r, m => by
    obtain ⟨h1, h2⟩ := mostGo_le L r (if m < atRule L x then atRule L x else m)
    unfold mostGo
    have c : m ≤ (if m < atRule L x then atRule L x else m) ∧ atRule L x ≤ (if m < atRule L x then atRule L x else m) := by split <;> omega
    refine ⟨by omega, fun z hz => ?_⟩
    rcases List.mem_cons.1 hz with rfl | hz
    · omega
    · exact h2 z hz
theorem mostGo_is (L : List Rl) : ∀ (r : List Rl) (m : Nat), mostGo L r m = m ∨ ∃ x ∈ r, mostGo L r m = atRule L x
  | [], m => .inl rfl
  | x :: r, m => by
    unfold mostGo
    rcases mostGo_is L r (if m < atRule L x then atRule L x else m) with h | ⟨z, hz, h⟩
    · by_cases c : m < atRule L x
      · rw [if_pos c] at h ⊢
        exact .inr ⟨x, List.mem_cons_self .., h⟩
      · rw [if_neg c] at h ⊢
        exact .inl h
    · exact .inr ⟨z, List.mem_cons_of_mem _ hz, h⟩
theorem top_rule (y : Int) : ∀ L : List Rl, 0 < countY L y → ∃ x ∈ L, (x.fr ≤ y ∧ y ≤ x.last) ∧ ∀ z ∈ L, (z.fr ≤ y ∧ y ≤ z.last) → z.fr ≤ x.fr
  | [], h => by simp [countY] at h
  | c :: r, h => by
    by_cases h0 : 0 < countY r y
    · obtain ⟨x, hx, h1, h2⟩ := top_rule y r h0
      by_cases k : (c.fr ≤ y ∧ y ≤ c.last) ∧ x.fr < c.fr
      · refine ⟨c, List.mem_cons_self .., k.1, fun z hz hzy => ?_⟩
        rcases List.mem_cons.1 hz with rfl | hz
        · exact Int.le_refl _
        · have := h2 z hz hzy; omega
      · refine ⟨x, List.mem_cons_of_mem _ hx, h1, fun z hz hzy => ?_⟩
        rcases List.mem_cons.1 hz with rfl | hz
        · by_cases l : x.fr < z.fr
          · exact absurd ⟨hzy, l⟩ k
          · omega
        · exact h2 z hz hzy
    · have hc : c.fr ≤ y ∧ y ≤ c.last := by
        unfold countY at h h0
        rw [List.countP_cons] at h
        by_cases k : c.fr ≤ y ∧ y ≤ c.last
        · exact k
        · rw [if_neg (by simpa using k)] at h; omega
      refine ⟨c, List.mem_cons_self .., hc, fun z hz hzy => ?_⟩
      rcases List.mem_cons.1 hz with rfl | hz
      · exact Int.le_refl _
      · exact absurd (List.countP_pos_iff.2 ⟨z, hz, by simpa using hzy⟩) h0
theorem crowd_most (L : List Rl) : 10 < mostN L ↔ crowdP L := by
  constructor
  · intro h
    rcases mostGo_is L L 0 with e | ⟨x, _, e⟩
    · unfold mostN at h; omega
    · unfold mostN at h
      rw [e] at h
      unfold atRule at h
      by_cases c : x.fr ≤ x.last
      · rw [if_pos c] at h; exact ⟨x.fr, h⟩
      · rw [if_neg c] at h; omega
  · rintro ⟨y, h⟩
    obtain ⟨x, hx, hxy, top⟩ := top_rule y L (by omega)
    have a := (mostGo_le L L 0).2 x hx
    have b : countY L y ≤ countY L x.fr := by
      unfold countY
      refine List.countP_mono_left fun z hz hzy => ?_
      have hzy' : z.fr ≤ y ∧ y ≤ z.last := by simpa using hzy
      have := top z hz hzy'
      simp only [decide_eq_true_eq]
      omega
    unfold atRule at a
    rw [if_pos (by omega)] at a
    unfold mostN
    omega
abbrev RulV (w : World) (A : Option Addr) (n c : Nat) (L : List Rl) : Prop := Rs 11 w A n c (L.map Rl.vals)
def RetTB (w : World) (o : Option Tn) (e : Ending) (w' : World) : Prop := e = .returned (.tuple #[(o.getD Tn.zero).val, .bool o.isSome]) ∧ Below w.heap.size w w'
def RetIS (w : World) (r : Int × ByteArray) (e : Ending) (w' : World) : Prop := e = .returned (.tuple #[.int .i64 r.1, .string r.2]) ∧ Below w.heap.size w w'
noncomputable def fitB (L : List Rl) : Bool := @decide (fitL L) (Classical.propDecidable _)
theorem fit_yes {L : List Rl} : fitB L = true ↔ fitL L := @decide_eq_true_iff _ (Classical.propDecidable _)
noncomputable def crowdB (L : List Rl) : Bool := fitB L && @decide (crowdP L) (Classical.propDecidable _)
noncomputable def nearB (L : List Rl) : Bool := (fitB L && !crowdB L) && @decide (nearP L) (Classical.propDecidable _)
noncomputable def aheadR (L : List Rl) (a : Int) : Option Tn := if fitB L = true then aheadO L a else none
def pairIn (l : List Tn) : Prop := ∃ p q : Nat, q < p ∧ ∃ t u, l[p]? = some t ∧ l[q]? = some u ∧ nearT t u
theorem nearT_sym {t u : Tn} (h : nearT t u) : nearT u t := by unfold nearT at *; omega
theorem pairIn_any {l : List Tn} {p q : Nat} {t u : Tn} (hp : l[p]? = some t) (hq : l[q]? = some u) (ne : p ≠ q) (n : nearT t u) : pairIn l := by
  rcases Nat.lt_or_gt_of_ne ne with h | h
  · exact ⟨q, p, h, u, t, hq, hp, nearT_sym n⟩
  · exact ⟨p, q, h, t, u, hp, hq, n⟩
def bothT (L : List Rl) (y : Int) : List Tn := turnsL L (y - 1) ++ turnsL L y
theorem near_doc {L : List Rl} (hL : fitL L) {lo hi : Int} (hlo : ∀ x ∈ L, lo ≤ x.fr) (hh : yearsTo L hi) : (∃ y, lo ≤ y ∧ y ≤ hi + 402 ∧ pairIn (bothT L y)) ↔ nearP L := by
  constructor
  · rintro ⟨y, _, _, p, q, lt, t, u, hp, hq, n⟩
    unfold bothT at hp hq
    by_cases a : p < (turnsL L (y - 1)).length
    · rw [List.getElem?_append_left a] at hp
      rw [List.getElem?_append_left (by omega)] at hq
      obtain ⟨i, j, ne, h1, h2⟩ := turns_pair.1 ⟨p, q, by omega, hp, hq⟩
      exact ⟨i, j, y - 1, y - 1, t, u, h1, h2, .inl ne, n⟩
    · rw [List.getElem?_append_right (by omega)] at hp
      by_cases b : q < (turnsL L (y - 1)).length
      · rw [List.getElem?_append_left b] at hq
        obtain ⟨i, h1⟩ := turnsL_mem.1 (List.mem_of_getElem? hp)
        obtain ⟨j, h2⟩ := turnsL_mem.1 (List.mem_of_getElem? hq)
        exact ⟨i, j, y, y - 1, t, u, h1, h2, .inr (by omega), n⟩
      · rw [List.getElem?_append_right (by omega)] at hq
        obtain ⟨i, j, ne, h1, h2⟩ := turns_pair.1 ⟨_, _, by omega, hp, hq⟩
        exact ⟨i, j, y, y, t, u, h1, h2, .inl ne, n⟩
  · intro h
    obtain ⟨y, l1, l2, t, u, n, k⟩ := near_found hL hlo hh h
    refine ⟨y, l1, l2, ?_⟩
    unfold bothT
    rcases k with ⟨h1, h2⟩ | k
    · obtain ⟨p, hp⟩ := List.getElem?_of_mem h1
      obtain ⟨q, hq⟩ := List.getElem?_of_mem h2
      have lp := (List.getElem?_eq_some_iff.1 hp).1
      exact pairIn_any (p := p) (q := (turnsL L (y - 1)).length + q) (by rw [List.getElem?_append_left lp]; exact hp) (by rw [List.getElem?_append_right (by omega), Nat.add_sub_cancel_left]; exact hq) (by omega) n
    · obtain ⟨p, q, ne, hp, hq⟩ := turns_pair.2 k
      exact pairIn_any (p := (turnsL L (y - 1)).length + p) (q := (turnsL L (y - 1)).length + q) (by rw [List.getElem?_append_right (by omega), Nat.add_sub_cancel_left]; exact hp) (by rw [List.getElem?_append_right (by omega), Nat.add_sub_cancel_left]; exact hq) (by omega) n
theorem turns_early {L : List Rl} {lo y : Int} (hlo : ∀ x ∈ L, lo ≤ x.fr) (h : y < lo) : turnsL L y = [] := by
  cases e : turnsL L y with
  | nil => rfl
  | cons t r =>
    obtain ⟨i, x, hx, ht, _⟩ := turnsL_mem.1 (show t ∈ turnsL L y by rw [e]; exact List.mem_cons_self ..)
    have := hlo x (List.mem_of_getElem? hx)
    have := ht.1.1
    omega
def loGo : List Rl → Int → Int
  | [], m => m
  | x :: r, m => loGo r (if x.fr < m then x.fr else m)
def hiStep (x : Rl) (m : Int) : Int := if x.last ≠ 1000000 ∧ (if m < x.fr then x.fr else m) < x.last then x.last else (if m < x.fr then x.fr else m)
def hiGo : List Rl → Int → Int
  | [], m => m
  | x :: r, m => hiGo r (hiStep x m)
theorem loGo_le : ∀ (L : List Rl) (m : Int), loGo L m ≤ m ∧ ∀ x ∈ L, loGo L m ≤ x.fr
  | [], m => ⟨Int.le_refl _, fun x h => by cases h⟩
  | x :: r, m => by
    obtain ⟨h1, h2⟩ := loGo_le r (if x.fr < m then x.fr else m)
    unfold loGo
    have c : (if x.fr < m then x.fr else m) ≤ m ∧ (if x.fr < m then x.fr else m) ≤ x.fr := by split <;> omega
    refine ⟨by omega, fun z hz => ?_⟩
    rcases List.mem_cons.1 hz with rfl | hz
    · omega
    · exact h2 z hz
theorem hiStep_le (x : Rl) (m : Int) : m ≤ hiStep x m ∧ x.fr ≤ hiStep x m ∧ (x.last = 1000000 ∨ x.last ≤ hiStep x m) := by
  unfold hiStep
  split <;> (try split) <;> omega
theorem hiStep_top {x : Rl} (f : x.fit) {m : Int} (h : m ≤ 9999) : hiStep x m ≤ 9999 := by
  have a := f.1.2
  have b := f.2.1.2
  unfold hiStep
  split <;> (try split) <;> omega
theorem hiGo_le : ∀ (L : List Rl) (m : Int), m ≤ hiGo L m ∧ ∀ x ∈ L, x.fr ≤ hiGo L m ∧ (x.last = 1000000 ∨ x.last ≤ hiGo L m)
  | [], m => ⟨Int.le_refl _, fun x h => by cases h⟩
  | x :: r, m => by
    obtain ⟨h1, h2⟩ := hiGo_le r (hiStep x m)
    have c := hiStep_le x m
    unfold hiGo
    refine ⟨by omega, fun z hz => ?_⟩
    rcases List.mem_cons.1 hz with rfl | hz
    · exact ⟨by omega, by omega⟩
    · exact h2 z hz
theorem hiGo_top : ∀ (L : List Rl) (m : Int), fitL L → m ≤ 9999 → hiGo L m ≤ 9999
  | [], m, _, h => h
  | x :: r, m, hL, h => by
    unfold hiGo
    exact hiGo_top r _ (fun z hz => hL z (List.mem_cons_of_mem _ hz)) (hiStep_top (hL x (List.mem_cons_self ..)) h)
theorem hi_years {L : List Rl} (hL : fitL L) : yearsTo L (hiGo L 0) := ⟨hiGo_top L 0 hL (by decide), (hiGo_le L 0).2⟩
def yearDoc (T Y : Int) : Prop := if T < -9000000000000 then Y = -271821 else if 8640000000000 < T then Y = 275760 else if T / 86400 < -100000001 then Y = -271821 else jan Y ≤ T / 86400 ∧ T / 86400 < jan (Y + 1)
theorem yearDoc_ok {T Y : Int} (h : yearDoc T Y) : yearOk T Y := by
  unfold yearDoc at h
  split at h
  · exact .inl ⟨by omega, h⟩
  · split at h
    · exact .inr (.inl ⟨by omega, h⟩)
    · split at h
      · exact .inl ⟨by omega, h⟩
      · exact .inr (.inr ⟨by omega, by omega⟩)
end Go.Proofs.YtmhpnmlgfdomkaaGreatDoor
