import Derived.Test.YtpbgddoicjjhnaaGreatDoorYUon
import Derived.Test.YtpbgddoicjjhnaaGreatDoorYGhs
set_option maxRecDepth 100000
set_option maxHeartbeats 64000000
namespace Go.Proofs.YtpbgddoicjjhnaaGreatDoor
open Go.RowKit
structure Tn where
  at_ : Int
  re : Int
  save : Int
  letter : ByteArray
def Tn.zero : Tn := ⟨0, 0, 0, ⟨#[]⟩⟩
def Tn.vals (t : Tn) : List Value := [.int .i64 t.at_, .int .i64 t.re, .int .i64 t.save, .string t.letter]
def Tn.val (t : Tn) : Value := .agg t.vals.toArray
theorem Tn.ext' {a b : Tn} (h1 : a.at_ = b.at_) (h2 : a.re = b.re) (h3 : a.save = b.save) (h4 : a.letter = b.letter) : a = b := by
  cases a; cases b; simp_all
def Rl.fit (x : Rl) : Prop := (1 ≤ x.fr ∧ x.fr ≤ 9999) ∧ (1 ≤ x.last ∧ (x.last ≤ 9999 ∨ x.last = 1000000)) ∧ x.sp.ok ∧ (-43200 ≤ x.save ∧ x.save ≤ 43200)
def fitL (L : List Rl) : Prop := ∀ x ∈ L, x.fit
def turnIn (x : Rl) (y : Int) : Prop := (x.fr ≤ y ∧ y ≤ x.last) ∧ onOk x.sp y
def turnT (x : Rl) (y : Int) : Tn := ⟨loN x.sp y, x.sp.re, x.save, x.letter⟩
theorem onOk_year {x : Sp} {y : Int} (h : onOk x y) : 1 ≤ y ∧ y ≤ 275760 := ⟨h.2.1.1, (ok_year h.2.2.1).2⟩
theorem cum_top {y m : Int} (h1 : 1 ≤ m) (h2 : m ≤ 12) : 0 ≤ cum y m ∧ cum y m ≤ lenY y - 31 := by
  have c := cum_succ (y := y) (m := 12) (by omega) (by omega)
  have e := cum_end y
  have l : lenM y 12 = 31 := by unfold lenM; simp
  have r := cum_range (y := y) (m := m) h1 (by omega)
  rw [show (12 : Int) + 1 = 13 from rfl] at c
  by_cases h : m = 12
  · subst h; omega
  · have := cum_lt (y := y) (m := m) (m' := 12) h1 (by omega) (by omega)
    have := lenM_le y m
    omega
theorem onDay_near11 {x : Sp} (h : x.ok) (y : Int) : numD y x.mo 1 - 6 ≤ onDay x y ∧ onDay x y ≤ numD y x.mo 1 + 36 := by
  obtain ⟨⟨m1, m12⟩, ⟨k0, k3⟩, _, _, w0, w1, d0, d1⟩ := h
  have lm := lenM_range (y := y) m1 m12
  have h8 := @downTo_is (numD y x.mo 1 + lenM y x.mo - 1) x.wd
  have h9 := @downTo_is (numD y x.mo 1 + x.da - 1) x.wd
  have h10 := @upTo_is (numD y x.mo 1 + x.da - 1) x.wd
  unfold onDay
  split
  · omega
  · split
    · omega
    · split <;> omega
theorem onDay_year {x : Sp} (h : x.ok) (y : Int) : jan y - 6 ≤ onDay x y ∧ onDay x y ≤ jan (y + 1) + 5 := by
  obtain ⟨m1, m12⟩ := h.1
  have ct := cum_top (y := y) m1 m12
  have hj := jan_succ y
  have hn : numD y x.mo 1 = jan y + cum y x.mo := by unfold numD; omega
  have nr := onDay_near11 h y
  omega
theorem cum_leap (y z m : Int) : cum y m ≤ cum z m + 1 := by
  have a : (if leap y then (1 : Int) else 0) ≤ 1 := by split <;> omega
  have b : 0 ≤ (if leap z then (1 : Int) else 0) := by split <;> omega
  unfold cum
  by_cases h1 : m ≤ 1
  · rw [if_pos h1, if_pos h1]; omega
  rw [if_neg h1, if_neg h1]
  by_cases h2 : m = 2
  · rw [if_pos h2, if_pos h2]; omega
  rw [if_neg h2, if_neg h2]
  generalize (if m = 3 then (59 : Int) else if m = 4 then 90 else if m = 5 then 120 else if m = 6 then 151 else if m = 7 then 181 else if m = 8 then 212 else if m = 9 then 243 else if m = 10 then 273 else if m = 11 then 304 else if m = 12 then 334 else 365) = q
  omega
theorem onDay_next {x : Sp} (h : x.ok) {y z : Int} (l : y < z) : onDay x y + 320 ≤ onDay x z := by
  have a := onDay_near11 h y
  have b := onDay_near11 h z
  obtain ⟨m1, m12⟩ := h.1
  have e1 : numD y x.mo 1 = jan y + cum y x.mo := by unfold numD; omega
  have e2 : numD z x.mo 1 = jan z + cum z x.mo := by unfold numD; omega
  have j := jan_lt l
  have c := cum_leap y z x.mo
  omega
theorem turn_at {x : Rl} {y : Int} (h : turnIn x y) : (turnT x y).at_ = onDay x.sp y * 86400 + x.sp.ti := by
  unfold turnT loN
  rw [if_pos h.2]
theorem turn_year {x : Rl} {y : Int} (h : turnIn x y) : 86400 * (jan y - 6) - 604799 ≤ (turnT x y).at_ ∧ (turnT x y).at_ ≤ 86400 * (jan (y + 1) + 5) + 604799 := by
  have a := onDay_year h.2.1 y
  have t := h.2.1.2.2.1
  rw [turn_at h]
  omega
theorem turn_next {x : Rl} {y z : Int} (h : turnIn x y) (k : turnIn x z) (l : y < z) : (turnT x y).at_ + 20000000 < (turnT x z).at_ := by
  have a := onDay_next h.2.1 l
  rw [turn_at h, turn_at k]
  omega
theorem turn_same {x : Rl} {y z : Int} (h : turnIn x y) (k : turnIn x z) (e : (turnT x y).at_ = (turnT x z).at_) : y = z := by
  rcases Int.lt_trichotomy y z with l | l | l
  · have := turn_next h k l; omega
  · exact l
  · have := turn_next k h l; omega
theorem turn_is {x : Rl} (hx : x.fit) {y : Int} (h : x.fr ≤ y ∧ y ≤ x.last) (h2 : y ≤ 275700) : turnIn x y := by
  refine ⟨h, hx.2.2.1, ⟨by have := hx.1.1; omega, by omega⟩, ?_, ?_⟩
  · obtain ⟨m1, m12⟩ := hx.2.2.1.1
    have ct := cum_top (y := y) m1 m12
    have lm := lenM_range (y := y) m1 m12
    have e1 : numD y x.sp.mo 1 = jan y + cum y x.sp.mo := by unfold numD; omega
    have b := jan_le (a := 1) (b := y) (by have := hx.1.1; omega)
    have b2 := jan_le (a := y) (b := 275700) h2
    have c1 : jan 1 = -719162 := by decide
    have c2 : jan 275700 = 99977830 := by decide
    have l := lenY_range y
    exact ⟨⟨m1, m12, by omega, by omega⟩, by omega, by omega⟩
  · have a := (onDay_year hx.2.2.1 y).2
    have b2 := jan_le (a := y + 1) (b := 275701) (by omega)
    have c2 : jan 275701 = 99978195 := by decide
    omega
def isTurn (L : List Rl) (i : Nat) (y : Int) (t : Tn) : Prop := ∃ x, L[i]? = some x ∧ turnIn x y ∧ t = turnT x y
def Latest (L : List Rl) (P : Tn → Prop) : Option Tn → Prop
  | none => ∀ i y t, isTurn L i y t → ¬ P t
  | some t => ∃ i y, isTurn L i y t ∧ P t ∧ ∀ j z u, isTurn L j z u → P u → u.at_ < t.at_ ∨ (u.at_ = t.at_ ∧ j ≤ i)
theorem Latest.one {L : List Rl} {P : Tn → Prop} {a b : Option Tn} (h : Latest L P a) (k : Latest L P b) : a = b := by
  cases a with
  | none =>
    cases b with
    | none => rfl
    | some t => obtain ⟨i, y, h1, h2, _⟩ := k; exact absurd h2 (h i y t h1)
  | some t =>
    cases b with
    | none => obtain ⟨i, y, h1, h2, _⟩ := h; exact absurd h2 (k i y t h1)
    | some u =>
      obtain ⟨i, y, h1, h2, h3⟩ := h
      obtain ⟨j, z, k1, k2, k3⟩ := k
      have a := h3 j z u k1 k2
      have b := k3 i y t h1 h2
      have e : u.at_ = t.at_ := by omega
      obtain rfl : i = j := by omega
      obtain ⟨x, hx, hy, rfl⟩ := h1
      obtain ⟨x', hx', hz, rfl⟩ := k1
      rw [hx] at hx'
      cases hx'
      rw [turn_same hz hy e]
def LatestOf (x : Rl) (P : Tn → Prop) : Option Int → Prop
  | none => ∀ y, turnIn x y → ¬ P (turnT x y)
  | some y => turnIn x y ∧ P (turnT x y) ∧ ∀ z, turnIn x z → P (turnT x z) → z ≤ y
theorem take_at {α : Type} {L : List α} {k i : Nat} (h : i < k) : (L.take k)[i]? = L[i]? := by rw [List.getElem?_take, if_pos h]
theorem Latest.zero (L : List Rl) (P : Tn → Prop) : Latest (L.take 0) P none := fun i y t ⟨x, hx, _⟩ => by simp at hx
theorem Latest.next {L : List Rl} {P : Tn → Prop} {k : Nat} {x : Rl} (hx : L[k]? = some x) {b : Option Tn} (h : Latest (L.take k) P b) {r : Option Int} (hr : LatestOf x P r) :
    Latest (L.take (k + 1)) P (match r with | none => b | some y => match b with | none => some (turnT x y) | some t => if t.at_ ≤ (turnT x y).at_ then some (turnT x y) else some t) := by
  have old : ∀ {i y t}, isTurn (L.take (k + 1)) i y t → isTurn (L.take k) i y t ∨ (i = k ∧ turnIn x y ∧ t = turnT x y) := fun {i y t} ⟨x', hx', ht⟩ => by
    have hi : i < k + 1 := by
      have := (List.getElem?_eq_some_iff.1 hx').1
      rw [List.length_take] at this
      omega
    rw [take_at hi] at hx'
    by_cases e : i = k
    · subst e
      rw [hx] at hx'
      cases hx'
      exact .inr ⟨rfl, ht⟩
    · exact .inl ⟨x', by rw [take_at (by omega)]; exact hx', ht⟩
  have up : ∀ {i y t}, isTurn (L.take k) i y t → i < k ∧ isTurn (L.take (k + 1)) i y t := fun {i y t} ⟨x', hx', ht⟩ => by
    have hi : i < k := by
      have := (List.getElem?_eq_some_iff.1 hx').1
      rw [List.length_take] at this
      omega
    rw [take_at hi] at hx'
    exact ⟨hi, x', by rw [take_at (by omega)]; exact hx', ht⟩
  have new : ∀ {y}, turnIn x y → isTurn (L.take (k + 1)) k y (turnT x y) := fun {y} hy => ⟨x, by rw [take_at (by omega)]; exact hx, hy, rfl⟩
  cases r with
  | none =>
    cases b with
    | none =>
      intro i y t ht
      rcases old ht with h1 | ⟨rfl, h1, rfl⟩
      · exact h i y t h1
      · exact hr y h1
    | some t =>
      obtain ⟨i, y, h1, h2, h3⟩ := h
      refine ⟨i, y, (up h1).2, h2, fun j z u hu pu => ?_⟩
      rcases old hu with k1 | ⟨rfl, k1, rfl⟩
      · exact h3 j z u k1 pu
      · exact absurd pu (hr z k1)
  | some y =>
    obtain ⟨r1, r2, r3⟩ := hr
    have below : ∀ z, turnIn x z → P (turnT x z) → (turnT x z).at_ ≤ (turnT x y).at_ := fun z hz pz => by
      rcases Int.lt_or_eq_of_le (r3 z hz pz) with l | l
      · have := turn_next hz r1 l; omega
      · rw [l]; exact Int.le_refl _
    cases b with
    | none =>
      refine ⟨k, y, new r1, r2, fun j z u hu pu => ?_⟩
      rcases old hu with k1 | ⟨rfl, k1, rfl⟩
      · exact absurd pu (h j z u k1)
      · have := below z k1 pu; omega
    | some t =>
      obtain ⟨i, y0, h1, h2, h3⟩ := h
      dsimp only
      by_cases c : t.at_ ≤ (turnT x y).at_
      · rw [if_pos c]
        refine ⟨k, y, new r1, r2, fun j z u hu pu => ?_⟩
        rcases old hu with k1 | ⟨rfl, k1, rfl⟩
        · have := h3 j z u k1 pu
          have := (up k1).1
          omega
        · have := below z k1 pu; omega
      · rw [if_neg c]
        refine ⟨i, y0, (up h1).2, h2, fun j z u hu pu => ?_⟩
        rcases old hu with k1 | ⟨rfl, k1, rfl⟩
        · exact h3 j z u k1 pu
        · have := below z k1 pu; omega
theorem latestOf_ex (x : Rl) (P : Tn → Prop) : ∃ r, LatestOf x P r := by
  have go : ∀ (n : Nat) (y : Int), (∀ z, turnIn x z → P (turnT x z) → z ≤ y) → y ≤ n → ∃ r, LatestOf x P r := by
    intro n
    induction n with
    | zero =>
      intro y h hn
      refine ⟨none, fun z hz pz => ?_⟩
      have := h z hz pz
      have := (onOk_year hz.2).1
      omega
    | succ n ih =>
      intro y h hn
      by_cases c : turnIn x y ∧ P (turnT x y)
      · exact ⟨some y, c.1, c.2, h⟩
      · refine ih (y - 1) (fun z hz pz => ?_) (by omega)
        have a := h z hz pz
        have b : z ≠ y := fun e => c (e ▸ ⟨hz, pz⟩)
        omega
  exact go 275760 275760 (fun z hz _ => (onOk_year hz.2).2) (by omega)
theorem latest_ex (L : List Rl) (P : Tn → Prop) : ∃ r, Latest L P r := by
  have go : ∀ k, k ≤ L.length → ∃ r, Latest (L.take k) P r := by
    intro k
    induction k with
    | zero => intro _; exact ⟨none, Latest.zero L P⟩
    | succ k ih =>
      intro hk
      obtain ⟨b, hb⟩ := ih (by omega)
      obtain ⟨r, hr⟩ := latestOf_ex L[k] P
      exact ⟨_, hb.next (List.getElem?_eq_getElem (by omega)) hr⟩
  obtain ⟨r, hr⟩ := go L.length (Nat.le_refl _)
  rw [List.take_length] at hr
  exact ⟨r, hr⟩
noncomputable def latestO (L : List Rl) (P : Tn → Prop) : Option Tn := Classical.choose (latest_ex L P)
theorem latestO_is (L : List Rl) (P : Tn → Prop) : Latest L P (latestO L P) := Classical.choose_spec (latest_ex L P)
theorem latestO_of {L : List Rl} {P : Tn → Prop} {r : Option Tn} (h : Latest L P r) : latestO L P = r := (latestO_is L P).one h
noncomputable def aheadO (L : List Rl) (a : Int) : Option Tn := latestO L (fun t => t.at_ < a)
noncomputable def aheadSave (L : List Rl) (a : Int) : Int := match aheadO L a with | none => 0 | some t => t.save
theorem latest_in {L : List Rl} {P : Tn → Prop} {t : Tn} (h : latestO L P = some t) : ∃ i y, isTurn L i y t ∧ P t := by
  have := latestO_is L P
  rw [h] at this
  obtain ⟨i, y, h1, h2, _⟩ := this
  exact ⟨i, y, h1, h2⟩
theorem turn_fit {L : List Rl} (hL : fitL L) {i : Nat} {y : Int} {t : Tn} (h : isTurn L i y t) : (-43200 ≤ t.save ∧ t.save ≤ 43200) ∧ (0 ≤ t.re ∧ t.re ≤ 2) := by
  obtain ⟨x, hx, _, rfl⟩ := h
  have f := hL x (List.mem_of_getElem? hx)
  exact ⟨f.2.2.2, f.2.2.1.2.2.2.1⟩
theorem aheadSave_in {L : List Rl} (hL : fitL L) (a : Int) : -43200 ≤ aheadSave L a ∧ aheadSave L a ≤ 43200 := by
  unfold aheadSave
  cases e : aheadO L a with
  | none => exact ⟨by decide, by decide⟩
  | some t =>
    obtain ⟨i, y, h, _⟩ := latest_in e
    exact (turn_fit hL h).1
def noneFrom (x : Rl) (P : Tn → Prop) (y : Int) : Prop := ∀ z, turnIn x z → y < z → ¬ P (turnT x z)
instance (x : Rl) (y : Int) : Decidable (turnIn x y) := by unfold turnIn; infer_instance
def nearT (t u : Tn) : Prop := -172800 < t.at_ - u.at_ ∧ t.at_ - u.at_ < 172800
def nearP (L : List Rl) : Prop := ∃ i j y z t u, isTurn L i y t ∧ isTurn L j z u ∧ (i ≠ j ∨ y ≠ z) ∧ nearT t u
theorem leap_400 (y : Int) : leap (y + 400) ↔ leap y := by unfold leap; omega
theorem onDay_400 (x : Sp) (y : Int) : onDay x (y + 400) = onDay x y + 146097 := by
  have e1 : ∀ m, cum (y + 400) m = cum y m := fun m => by unfold cum; simp only [leap_400]
  have e2 : ∀ m, lenM (y + 400) m = lenM y m := fun m => by unfold lenM; simp only [leap_400]
  have e3 : ∀ m d, numD (y + 400) m d = numD y m d + 146097 := fun m d => by unfold numD; rw [e1, jan_400]; omega
  unfold onDay
  rw [e2, e3]
  split
  · omega
  · split
    · unfold downTo wday; omega
    · split
      · unfold upTo wday; omega
      · unfold downTo wday; omega
theorem near_years {x x' : Rl} {y z : Int} (h : turnIn x y) (k : turnIn x' z) (n : nearT (turnT x y) (turnT x' z)) : y - 1 ≤ z ∧ z ≤ y + 1 := by
  have a := turn_year h
  have b := turn_year k
  unfold nearT at n
  constructor
  · by_cases l : y - 1 ≤ z
    · exact l
    · have := jan_lt (a := z + 1) (b := y) (by omega); omega
  · by_cases l : z ≤ y + 1
    · exact l
    · have := jan_lt (a := y + 1) (b := z) (by omega); omega
def countY (L : List Rl) (y : Int) : Nat := L.countP (fun x => decide (x.fr ≤ y ∧ y ≤ x.last))
def atRule (L : List Rl) (x : Rl) : Nat := if x.fr ≤ x.last then countY L x.fr else 0
def mostGo (L : List Rl) : List Rl → Nat → Nat
  | [], m => m
  | x :: r, m => mostGo L r (if m < atRule L x then atRule L x else m)
def mostN (L : List Rl) : Nat := mostGo L L 0
def crowdP (L : List Rl) : Prop := ∃ y, 10 < countY L y
theorem mostGo_le (L : List Rl) : ∀ (r : List Rl) (m : Nat), m ≤ mostGo L r m ∧ ∀ x ∈ r, atRule L x ≤ mostGo L r m
  | [], m => ⟨Nat.le_refl _, fun x h => by cases h⟩
  | x :: r, m => by
    obtain ⟨h1, h2⟩ := mostGo_le L r (if m < atRule L x then atRule L x else m)
    unfold mostGo
    have c : m ≤ (if m < atRule L x then atRule L x else m) ∧ atRule L x ≤ (if m < atRule L x then atRule L x else m) := by split <;> omega
    refine ⟨by omega, fun z hz => ?_⟩
    rcases List.mem_cons.1 hz with rfl | hz
    · omega
    · exact h2 z hz
theorem mostGo_is (L : List Rl) : ∀ (r : List Rl) (m : Nat), mostGo L r m = m ∨ ∃ x ∈ r, mostGo L r m = atRule L x
  | [], m => .inl rfl
  | x :: r, m => by
    unfold mostGo
    rcases mostGo_is L r (if m < atRule L x then atRule L x else m) with h | ⟨z, hz, h⟩
    · by_cases c : m < atRule L x
      · rw [if_pos c] at h ⊢
        exact .inr ⟨x, List.mem_cons_self .., h⟩
      · rw [if_neg c] at h ⊢
        exact .inl h
    · exact .inr ⟨z, List.mem_cons_of_mem _ hz, h⟩
theorem top_rule (y : Int) : ∀ L : List Rl, 0 < countY L y → ∃ x ∈ L, (x.fr ≤ y ∧ y ≤ x.last) ∧ ∀ z ∈ L, (z.fr ≤ y ∧ y ≤ z.last) → z.fr ≤ x.fr
  | [], h => by simp [countY] at h
  | c :: r, h => by
    by_cases h0 : 0 < countY r y
    · obtain ⟨x, hx, h1, h2⟩ := top_rule y r h0
      by_cases k : (c.fr ≤ y ∧ y ≤ c.last) ∧ x.fr < c.fr
      · refine ⟨c, List.mem_cons_self .., k.1, fun z hz hzy => ?_⟩
        rcases List.mem_cons.1 hz with rfl | hz
        · exact Int.le_refl _
        · have := h2 z hz hzy; omega
      · refine ⟨x, List.mem_cons_of_mem _ hx, h1, fun z hz hzy => ?_⟩
        rcases List.mem_cons.1 hz with rfl | hz
        · by_cases l : x.fr < z.fr
          · exact absurd ⟨hzy, l⟩ k
          · omega
        · exact h2 z hz hzy
    · have hc : c.fr ≤ y ∧ y ≤ c.last := by
        unfold countY at h h0
        rw [List.countP_cons] at h
        by_cases k : c.fr ≤ y ∧ y ≤ c.last
        · exact k
        · rw [if_neg (by simpa using k)] at h; omega
      refine ⟨c, List.mem_cons_self .., hc, fun z hz hzy => ?_⟩
      rcases List.mem_cons.1 hz with rfl | hz
      · exact Int.le_refl _
      · exact absurd (List.countP_pos_iff.2 ⟨z, hz, by simpa using hzy⟩) h0
theorem crowd_most (L : List Rl) : 10 < mostN L ↔ crowdP L := by
  constructor
  · intro h
    rcases mostGo_is L L 0 with e | ⟨x, _, e⟩
    · unfold mostN at h; omega
    · unfold mostN at h
      rw [e] at h
      unfold atRule at h
      by_cases c : x.fr ≤ x.last
      · rw [if_pos c] at h; exact ⟨x.fr, h⟩
      · rw [if_neg c] at h; omega
  · rintro ⟨y, h⟩
    obtain ⟨x, hx, hxy, top⟩ := top_rule y L (by omega)
    have a := (mostGo_le L L 0).2 x hx
    have b : countY L y ≤ countY L x.fr := by
      unfold countY
      refine List.countP_mono_left fun z hz hzy => ?_
      have hzy' : z.fr ≤ y ∧ y ≤ z.last := by simpa using hzy
      have := top z hz hzy'
      simp only [decide_eq_true_eq]
      omega
    unfold atRule at a
    rw [if_pos (by omega)] at a
    unfold mostN
    omega
abbrev RulV (w : World) (A : Option Addr) (n c : Nat) (L : List Rl) : Prop := Rs 11 w A n c (L.map Rl.vals)
def RetTB (w : World) (o : Option Tn) (e : Ending) (w' : World) : Prop := e = .returned (.tuple #[(o.getD Tn.zero).val, .bool o.isSome]) ∧ Below w.heap.size w w'
def RetIS (w : World) (r : Int × ByteArray) (e : Ending) (w' : World) : Prop := e = .returned (.tuple #[.int .i64 r.1, .string r.2]) ∧ Below w.heap.size w w'
noncomputable def fitB (L : List Rl) : Bool := @decide (fitL L) (Classical.propDecidable _)
theorem fit_yes {L : List Rl} : fitB L = true ↔ fitL L := @decide_eq_true_iff _ (Classical.propDecidable _)
noncomputable def crowdB (L : List Rl) : Bool := fitB L && @decide (crowdP L) (Classical.propDecidable _)
noncomputable def nearB (L : List Rl) : Bool := (fitB L && !crowdB L) && @decide (nearP L) (Classical.propDecidable _)
noncomputable def aheadR (L : List Rl) (a : Int) : Option Tn := if fitB L = true then aheadO L a else none
end Go.Proofs.YtpbgddoicjjhnaaGreatDoor
