import Derived.Test.YtmhpnmlgfdomkaaGreatDoorZTpart
import Derived.Test.YtmhpnmlgfdomkaaGreatDoorZGea
import Derived.Test.YtmhpnmlgfdomkaaGreatDoorZHspec
set_option maxRecDepth 100000
set_option maxHeartbeats 64000000
namespace Go.Proofs.YtmhpnmlgfdomkaaGreatDoor
open Go.RowKit
def fsR {α : Type} (n : Nat) (f : Nat → Option α) : Option α := (List.range n).findSome? f
theorem fsR_none {α : Type} {n : Nat} {f : Nat → Option α} : fsR n f = none ↔ ∀ i, i < n → f i = none := by
  unfold fsR
  rw [List.findSome?_eq_none_iff]
  exact ⟨fun h i hi => h i (List.mem_range.2 hi), fun h i hi => h i (List.mem_range.1 hi)⟩
theorem fsR_succ {α : Type} (n : Nat) (f : Nat → Option α) : fsR (n + 1) f = (fsR n f).or (f n) := by
  unfold fsR
  rw [List.range_succ, List.findSome?_append]
  cases e : (List.range n).findSome? f with
  | none => simp
  | some a => simp
theorem fsR_hit {α : Type} {n i : Nat} {f : Nat → Option α} {a : α} (hi : i < n) (h : f i = some a) (m : ∀ k, k < i → f k = none) : fsR n f = some a := by
  induction n with
  | zero => omega
  | succ n ih =>
    rw [fsR_succ]
    by_cases c : i < n
    · rw [ih c]; rfl
    · obtain rfl : i = n := by omega
      rw [fsR_none.2 m, h]; rfl
structure Fw where
  err : Int
  kind : Int
  at_ : Int
  era : Int
def Fw.zero : Fw := ⟨0, 0, 0, 0⟩
def Fw.val (f : Fw) : Value := .agg #[.int .i64 f.err, .int .i64 f.kind, .int .i64 f.at_, .int .i64 f.era]
def ruleF (L : List Rl) (i : Nat) : Option Fw := match L[i]? with | some x => if x.last < x.fr then some ⟨16, 1, i, 0⟩ else none | none => none
def evers (l : List Rl) : Nat := l.countP (fun x => decide (x.last = 1000000))
open Classical in
noncomputable def setErr (l : List Rl) : Int := if 10 < mostN l then 12 else if 2 < evers l then 15 else if nearP l then 17 else 0
def firstR (L : List Rl) (i : Nat) : Prop := ∀ x, L[i]? = some x → ∀ (k : Nat) (y : Rl), k < i → L[k]? = some y → y.name ≠ x.name
open Classical in
noncomputable def setF (L : List Rl) (i : Nat) : Option Fw := match L[i]? with
  | some x => if firstR L i ∧ setErr (setL L x.name) ≠ 0 then some ⟨setErr (setL L x.name), 1, i, 0⟩ else none
  | none => none
def beyond (n : Int) : Prop := n ≤ -86400 ∨ 86400 ≤ n
instance (n : Int) : Decidable (beyond n) := by unfold beyond; infer_instance
open Classical in
noncomputable def eraErr (L : List Rl) (p : Option Er) (x : Er) : Int :=
  if x.kind = 2 ∧ setL L x.rules = [] then 8
  else if (x.kind = 2 ∧ ∃ r ∈ setL L x.rules, beyond (x.off + r.save)) ∨ beyond (x.off + x.save) then 11
  else match p with
    | some y => if x.til = true ∧ endE L x ≤ endE L y then 16 else 0
    | none => 0
def prevE (es : List Er) (k : Nat) : Option Er := if k = 0 then none else es[k - 1]?
noncomputable def eraF (L : List Rl) (es : List Er) (z k : Nat) : Option Fw := match es[k]? with
  | some x => if eraErr L (prevE es k) x ≠ 0 then some ⟨eraErr L (prevE es k) x, 2, z, k⟩ else none
  | none => none
open Classical in
noncomputable def zoneF (S : Sr) (i : Nat) : Option Fw := match S.zones[i]? with
  | some z => if ∃ (k : Nat) (y : Zn), k < i ∧ S.zones[k]? = some y ∧ y.name = z.name then some ⟨10, 2, i, 0⟩ else fsR z.eras.length (eraF S.rules z.eras i)
  | none => none
def zoneI (S : Sr) (nm : ByteArray) : Option Nat := S.zones.findIdx? (fun z => decide (z.name = nm))
def linkI (S : Sr) (nm : ByteArray) : Option Nat := S.links.findIdx? (fun z => decide (z.name = nm))
def resGo (S : Sr) : Nat → ByteArray → Option Nat
  | 0, _ => none
  | n + 1, nm => match zoneI S nm with
    | some z => some z
    | none => match linkI S nm with
      | none => none
      | some l => match S.links[l]? with
        | some x => resGo S n x.target
        | none => none
def resR (S : Sr) (nm : ByteArray) : Option Nat := resGo S (S.links.length + 1) nm
open Classical in
noncomputable def linkF1 (S : Sr) (i : Nat) : Option Fw := match S.links[i]? with
  | some x => if (∃ z ∈ S.zones, z.name = x.name) ∨ (∃ (k : Nat) (y : Lk), k < i ∧ S.links[k]? = some y ∧ y.name = x.name) then some ⟨10, 3, i, 0⟩ else none
  | none => none
open Classical in
noncomputable def linkF2 (S : Sr) (i : Nat) : Option Fw := match S.links[i]? with
  | some x => if (¬ ∃ z ∈ S.zones, z.name = x.target) ∧ (¬ ∃ y ∈ S.links, y.name = x.target) then some ⟨8, 3, i, 0⟩ else none
  | none => none
def linkF3 (S : Sr) (i : Nat) : Option Fw := match S.links[i]? with
  | some x => if resR S x.name = none then some ⟨16, 3, i, 0⟩ else none
  | none => none
noncomputable def checkO (S : Sr) : Option Fw :=
  (fsR S.rules.length (ruleF S.rules)).or ((fsR S.rules.length (setF S.rules)).or ((fsR S.zones.length (zoneF S)).or
    ((fsR S.links.length (linkF1 S)).or ((fsR S.links.length (linkF2 S)).or (fsR S.links.length (linkF3 S))))))
noncomputable def checkR (S : Sr) : Fw := if okSr S = true then (checkO S).getD Fw.zero else ⟨1, 0, 0, 0⟩
theorem or_none {α : Type} {a b : Option α} : a.or b = none ↔ a = none ∧ b = none := by cases a <;> simp
theorem checkO_none {S : Sr} : checkO S = none ↔ (∀ i, i < S.rules.length → ruleF S.rules i = none) ∧ (∀ i, i < S.rules.length → setF S.rules i = none) ∧ (∀ i, i < S.zones.length → zoneF S i = none) ∧
    (∀ i, i < S.links.length → linkF1 S i = none) ∧ (∀ i, i < S.links.length → linkF2 S i = none) ∧ ∀ i, i < S.links.length → linkF3 S i = none := by
  unfold checkO
  rw [or_none, or_none, or_none, or_none, or_none, fsR_none, fsR_none, fsR_none, fsR_none, fsR_none, fsR_none]
theorem if_some {α : Type} {c : Prop} {d : Decidable c} {a b : α} (h : (if c then some a else none) = some b) : c ∧ b = a := by
  by_cases k : c
  · rw [if_pos k] at h; exact ⟨k, (Option.some.inj h).symm⟩
  · rw [if_neg k] at h; cases h
theorem eraF_err {L : List Rl} {es : List Er} {z k : Nat} {f : Fw} (h : eraF L es z k = some f) : f.err ≠ 0 := by
  unfold eraF at h
  split at h
  · obtain ⟨c, rfl⟩ := if_some h
    exact c
  · cases h
theorem fsR_some {α : Type} {n : Nat} {f : Nat → Option α} {a : α} (h : fsR n f = some a) : ∃ i, i < n ∧ f i = some a := by
  unfold fsR at h
  obtain ⟨i, hi, e⟩ := List.exists_of_findSome?_eq_some h
  exact ⟨i, List.mem_range.1 hi, e⟩
theorem checkO_err {S : Sr} {f : Fw} (h : checkO S = some f) : f.err ≠ 0 := by
  unfold checkO at h
  simp only [Option.or_eq_some_iff] at h
  rcases h with h | ⟨_, h | ⟨_, h | ⟨_, h | ⟨_, h | ⟨_, h⟩⟩⟩⟩⟩
  all_goals obtain ⟨i, _, h⟩ := fsR_some h
  · unfold ruleF at h
    split at h
    · obtain ⟨_, rfl⟩ := if_some h; show (16 : Int) ≠ 0; decide
    · cases h
  · unfold setF at h
    split at h
    · obtain ⟨c, rfl⟩ := if_some h; exact c.2
    · cases h
  · unfold zoneF at h
    split at h
    · split at h
      · have e := Option.some.inj h; rw [← e]; show (10 : Int) ≠ 0; decide
      · obtain ⟨k, _, h⟩ := fsR_some h
        exact eraF_err h
    · cases h
  · unfold linkF1 at h
    split at h
    · obtain ⟨_, rfl⟩ := if_some h; show (10 : Int) ≠ 0; decide
    · cases h
  · unfold linkF2 at h
    split at h
    · obtain ⟨_, rfl⟩ := if_some h; show (8 : Int) ≠ 0; decide
    · cases h
  · unfold linkF3 at h
    split at h
    · obtain ⟨_, rfl⟩ := if_some h; show (16 : Int) ≠ 0; decide
    · cases h
theorem check_zero {S : Sr} : (checkR S).err = 0 ↔ okSr S = true ∧ checkO S = none := by
  unfold checkR
  by_cases c : okSr S = true
  · rw [if_pos c]
    cases e : checkO S with
    | none => exact ⟨fun _ => ⟨c, rfl⟩, fun _ => rfl⟩
    | some f => exact ⟨fun h => absurd h (checkO_err e), fun h => by cases h.2⟩
  · rw [if_neg c]
    exact ⟨fun h => absurd (show (1 : Int) = 0 from h) (by decide), fun h => absurd h.1 c⟩
theorem check_zero2 {S : Sr} : checkR S = Fw.zero ↔ okSr S = true ∧ checkO S = none := by
  rw [← check_zero]
  constructor
  · intro h; rw [h]; rfl
  · intro h
    obtain ⟨h1, h2⟩ := check_zero.1 h
    unfold checkR
    rw [if_pos h1, h2]
    rfl
theorem zoneF_none {S : Sr} {i : Nat} {z : Zn} (hz : S.zones[i]? = some z) : zoneF S i = none ↔ (∀ (k : Nat) (y : Zn), k < i → S.zones[k]? = some y → y.name ≠ z.name) ∧ ∀ (k : Nat) (x : Er), z.eras[k]? = some x → eraErr S.rules (prevE z.eras k) x = 0 := by
  unfold zoneF
  rw [hz]
  simp only
  by_cases c : ∃ (k : Nat) (y : Zn), k < i ∧ S.zones[k]? = some y ∧ y.name = z.name
  · rw [if_pos c]
    constructor
    · intro h; cases h
    · rintro ⟨h, _⟩
      obtain ⟨k, y, h1, h2, h3⟩ := c
      exact absurd h3 (h k y h1 h2)
  · rw [if_neg c, fsR_none]
    constructor
    · intro h
      refine ⟨fun k y h1 h2 h3 => c ⟨k, y, h1, h2, h3⟩, fun k x hx => ?_⟩
      have := h k (List.getElem?_eq_some_iff.1 hx).1
      unfold eraF at this
      rw [hx] at this
      simp only at this
      apply Classical.byContradiction
      intro d
      rw [if_pos d] at this
      cases this
    · rintro ⟨_, h⟩ k hk
      unfold eraF
      rw [List.getElem?_eq_getElem hk]
      simp only
      rw [if_neg (fun d => d (h k _ (List.getElem?_eq_getElem hk)))]
theorem zoneI_some {S : Sr} {nm : ByteArray} {z : Nat} (h : zoneI S nm = some z) : ∃ y, S.zones[z]? = some y ∧ y.name = nm := by
  unfold zoneI at h
  obtain ⟨hi, e, _⟩ := List.findIdx?_eq_some_iff_getElem.1 h
  exact ⟨_, List.getElem?_eq_getElem hi, of_decide_eq_true e⟩
theorem zoneI_none {S : Sr} {nm : ByteArray} : zoneI S nm = none ↔ ∀ y ∈ S.zones, y.name ≠ nm := by
  unfold zoneI
  rw [List.findIdx?_eq_none_iff]
  exact ⟨fun h y hy e => (by have := h y hy; rw [decide_eq_true e] at this; cases this), fun h y hy => decide_eq_false (h y hy)⟩
theorem linkI_none {S : Sr} {nm : ByteArray} : linkI S nm = none ↔ ∀ y ∈ S.links, y.name ≠ nm := by
  unfold linkI
  rw [List.findIdx?_eq_none_iff]
  exact ⟨fun h y hy e => (by have := h y hy; rw [decide_eq_true e] at this; cases this), fun h y hy => decide_eq_false (h y hy)⟩
theorem nodup_le : ∀ {n : Nat} {l : List Nat}, l.Nodup → (∀ i ∈ l, i < n) → l.length ≤ n
  | 0, [], _, _ => Nat.le_refl _
  | 0, a :: _, _, h => absurd (h a List.mem_cons_self) (Nat.not_lt_zero _)
  | n + 1, l, d, h => by
    have d' : (l.erase n).Nodup := d.erase n
    have k := nodup_le (n := n) d' fun i hi => by
      have m := (d.mem_erase_iff.1 hi)
      have := h i m.2
      have := m.1
      omega
    have e := List.length_erase (a := n) (l := l)
    split at e <;> omega
theorem resGo_zone {S : Sr} {nm : ByteArray} {z : Nat} (h : zoneI S nm = some z) (n : Nat) : resGo S (n + 1) nm = some z := by
  unfold resGo; rw [h]
theorem resGo_none {S : Sr} {nm : ByteArray} (h : zoneI S nm = none) (k : linkI S nm = none) (n : Nat) : resGo S (n + 1) nm = none := by
  unfold resGo; rw [h]; show (match linkI S nm with | none => _ | some l => _) = _; rw [k]
theorem resGo_link {S : Sr} {nm : ByteArray} {l : Nat} {x : Lk} (h : zoneI S nm = none) (k : linkI S nm = some l) (e : S.links[l]? = some x) (n : Nat) : resGo S (n + 1) nm = resGo S n x.target := by
  rw [resGo, h]; show (match linkI S nm with | none => _ | some l => _) = _; rw [k]; show (match S.links[l]? with | some x => _ | none => _) = _; rw [e]
theorem linkI_at {S : Sr} {nm : ByteArray} {l : Nat} (k : linkI S nm = some l) : ∃ x, S.links[l]? = some x := by
  unfold linkI at k
  have := (List.findIdx?_eq_some_iff_getElem.1 k)
  exact ⟨_, List.getElem?_eq_getElem this.1⟩
theorem resGo_mono {S : Sr} {z : Nat} : ∀ {n : Nat} {nm : ByteArray}, resGo S n nm = some z → resGo S (n + 1) nm = some z
  | 0, _, h => by cases h
  | n + 1, nm, h => by
    cases hz : zoneI S nm with
    | some a => rw [resGo_zone hz] at h ⊢; exact h
    | none =>
      cases hl : linkI S nm with
      | none => rw [resGo_none hz hl] at h; cases h
      | some l =>
        obtain ⟨x, hx⟩ := linkI_at hl
        rw [resGo_link hz hl hx] at h ⊢
        exact resGo_mono h
theorem resGo_le {S : Sr} {z n : Nat} {nm : ByteArray} (h : resGo S n nm = some z) : ∀ {m : Nat}, n ≤ m → resGo S m nm = some z := fun {m} => by
  induction m with
  | zero => intro k; rw [Nat.le_zero.1 k] at h; exact h
  | succ m ih =>
    intro k
    rcases Nat.lt_or_ge m n with c | c
    · rw [show m + 1 = n by omega]; exact h
    · exact resGo_mono (ih c)
theorem res_chain {S : Sr} : ∀ {n : Nat} {nm : ByteArray} {z : Nat}, resGo S (n + 1) nm = some z → (∀ m, m < n + 1 → resGo S m nm = none) →
    ∃ l : List Nat, l.length = n ∧ l.Nodup ∧ ∀ i ∈ l, ∃ x, S.links[i]? = some x ∧ ∃ m, m < n + 1 ∧ (resGo S m x.target).isSome = true ∧ ∀ k, k < m → resGo S k x.target = none
  | 0, _, _, _, _ => ⟨[], rfl, List.nodup_nil, fun _ h => absurd h List.not_mem_nil⟩
  | n + 1, nm, z, h, hm => by
    cases hz : zoneI S nm with
    | some a => have := hm 1 (by omega); rw [resGo_zone hz 0] at this; cases this
    | none =>
      cases hl : linkI S nm with
      | none => rw [resGo_none hz hl] at h; cases h
      | some l =>
        obtain ⟨x, hx⟩ := linkI_at hl
        rw [resGo_link hz hl hx] at h
        have hm' : ∀ m, m < n + 1 → resGo S m x.target = none := fun m k => by
          rw [← resGo_link hz hl hx m]; exact hm (m + 1) (by omega)
        obtain ⟨ls, h1, h2, h3⟩ := res_chain h hm'
        refine ⟨l :: ls, by rw [List.length_cons, h1], List.nodup_cons.2 ⟨fun c => ?_, h2⟩, fun i hi => ?_⟩
        · obtain ⟨y, hy, m, hmn, hs, _⟩ := h3 l c
          rw [hx] at hy
          cases hy
          rw [hm' m hmn] at hs
          cases hs
        · rcases List.mem_cons.1 hi with rfl | hi
          · exact ⟨x, hx, n + 1, by omega, by rw [h]; rfl, hm'⟩
          · obtain ⟨y, hy, m, hmn, hs⟩ := h3 i hi
            exact ⟨y, hy, m, by omega, hs⟩
theorem res_least {S : Sr} {nm : ByteArray} : ∀ {n : Nat} {z : Nat}, resGo S n nm = some z → ∃ m, m < n ∧ resGo S (m + 1) nm = some z ∧ ∀ k, k < m + 1 → resGo S k nm = none
  | 0, _, h => by cases h
  | n + 1, z, h => by
    cases e : resGo S n nm with
    | some y =>
      have := resGo_mono e
      rw [h] at this
      cases this
      obtain ⟨m, h1, h2⟩ := res_least e
      exact ⟨m, by omega, h2⟩
    | none =>
      refine ⟨n, by omega, h, fun k hk => ?_⟩
      cases e' : resGo S k nm with
      | none => rfl
      | some y => rw [resGo_le e' (by omega : k ≤ n)] at e; cases e
theorem resGo_ge {S : Sr} {n : Nat} (h : S.links.length < n) (nm : ByteArray) : resGo S n nm = resR S nm := by
  unfold resR
  cases e : resGo S n nm with
  | none =>
    cases e' : resGo S (S.links.length + 1) nm with
    | none => rfl
    | some y => rw [resGo_le e' h] at e; cases e
  | some z =>
    obtain ⟨m, _, h2, h3⟩ := res_least e
    obtain ⟨l, l1, l2, l3⟩ := res_chain h2 h3
    have := nodup_le l2 fun i hi => by
      obtain ⟨x, hx, _⟩ := l3 i hi
      exact (List.getElem?_eq_some_iff.1 hx).1
    exact (resGo_le h2 (by omega)).symm
def ltN (a b : ByteArray) : Bool := Op.bytesLess a.toList b.toList
theorem bytesLess_lt : ∀ (x y : List UInt8), Op.bytesLess x y = decide (x < y)
  | [], [] => by simp [Op.bytesLess]
  | _ :: _, [] => by simp [Op.bytesLess]
  | [], _ :: _ => by simp [Op.bytesLess]
  | a :: x, b :: y => by
    rw [Op.bytesLess, bytesLess_lt x y]
    simp only [List.cons_lt_cons_iff]
    by_cases h1 : a < b <;> by_cases h2 : a = b <;> by_cases h3 : x < y <;> simp [h1, h2, h3]
theorem ltN_iff {a b : ByteArray} : ltN a b = true ↔ a.data.toList < b.data.toList := by
  unfold ltN
  rw [bytesLess_lt, ByteArray.toList_eq, ByteArray.toList_eq]
  exact decide_eq_true_iff
theorem ltN_irr (a : ByteArray) : ltN a a = false := by
  rw [← Bool.not_eq_true, ltN_iff]
  exact List.lt_irrefl _
theorem ltN_trans {a b c : ByteArray} (h : ltN a b = true) (k : ltN b c = true) : ltN a c = true :=
  ltN_iff.2 (List.lt_trans (ltN_iff.1 h) (ltN_iff.1 k))
theorem ltN_tri {a b : ByteArray} (h : ltN a b = false) (k : ltN b a = false) : a = b := by
  have h1 : ¬ a.data.toList < b.data.toList := fun c => by rw [ltN_iff.2 c] at h; cases h
  have h2 : ¬ b.data.toList < a.data.toList := fun c => by rw [ltN_iff.2 c] at k; cases k
  have := List.le_antisymm (List.not_lt.1 h2) (List.not_lt.1 h1)
  cases a; cases b
  congr 1
  exact Array.toList_inj.1 this
def putN (x : ByteArray) : List ByteArray → List ByteArray
  | [] => [x]
  | y :: t => if ltN y x = true then y :: putN x t else if ltN x y = true then x :: y :: t else y :: t
theorem putN_cons (x y : ByteArray) (t : List ByteArray) : putN x (y :: t) = if ltN y x = true then y :: putN x t else if ltN x y = true then x :: y :: t else y :: t := rfl
abbrev Rise (l : List ByteArray) : Prop := l.Pairwise fun a b => ltN a b = true
theorem putN_mem {x a : ByteArray} : ∀ {l : List ByteArray}, a ∈ putN x l ↔ a = x ∨ a ∈ l
  | [] => by simp [putN]
  | y :: t => by
    rw [putN_cons]
    cases h : ltN y x
    · rw [if_neg Bool.false_ne_true]
      cases k : ltN x y
      · rw [if_neg Bool.false_ne_true]
        have e : y = x := ltN_tri h k
        constructor
        · exact .inr
        · rintro (rfl | m)
          · rw [e]; exact List.mem_cons_self
          · exact m
      · rw [if_pos rfl]
        exact List.mem_cons
    · rw [if_pos rfl, List.mem_cons, List.mem_cons, putN_mem]
      constructor
      · rintro (m | m | m)
        · exact .inr (.inl m)
        · exact .inl m
        · exact .inr (.inr m)
      · rintro (m | m | m)
        · exact .inr (.inl m)
        · exact .inl m
        · exact .inr (.inr m)
theorem putN_rise {x : ByteArray} : ∀ {l : List ByteArray}, Rise l → Rise (putN x l)
  | [], _ => List.pairwise_singleton _ _
  | y :: t, r => by
    obtain ⟨r1, r2⟩ := List.pairwise_cons.1 r
    rw [putN_cons]
    cases h : ltN y x
    · rw [if_neg Bool.false_ne_true]
      cases k : ltN x y
      · rw [if_neg Bool.false_ne_true]; exact r
      · rw [if_pos rfl]
        refine List.pairwise_cons.2 ⟨fun b hb => ?_, r⟩
        rcases List.mem_cons.1 hb with rfl | hb
        · exact k
        · exact ltN_trans k (r1 b hb)
    · rw [if_pos rfl]
      refine List.pairwise_cons.2 ⟨fun b hb => ?_, putN_rise r2⟩
      rcases putN_mem.1 hb with rfl | hb
      · exact h
      · exact r1 b hb
theorem rise_uniq : ∀ {l m : List ByteArray}, Rise l → Rise m → (∀ a, a ∈ l ↔ a ∈ m) → l = m
  | [], [], _, _, _ => rfl
  | [], b :: _, _, _, h => absurd ((h b).2 List.mem_cons_self) List.not_mem_nil
  | a :: _, [], _, _, h => absurd ((h a).1 List.mem_cons_self) List.not_mem_nil
  | a :: t, b :: u, r, s, h => by
    obtain ⟨r1, r2⟩ := List.pairwise_cons.1 r
    obtain ⟨s1, s2⟩ := List.pairwise_cons.1 s
    have e : a = b := by
      rcases List.mem_cons.1 ((h a).1 List.mem_cons_self) with e | ha
      · exact e
      · rcases List.mem_cons.1 ((h b).2 List.mem_cons_self) with e | hb
        · exact e.symm
        · have c := ltN_trans (r1 b hb) (s1 a ha)
          rw [ltN_irr] at c
          cases c
    subst e
    congr 1
    refine rise_uniq r2 s2 fun x => ?_
    constructor
    · intro hx
      rcases List.mem_cons.1 ((h x).1 (List.mem_cons_of_mem _ hx)) with e | k
      · have c := r1 x hx; rw [e, ltN_irr] at c; cases c
      · exact k
    · intro hx
      rcases List.mem_cons.1 ((h x).2 (List.mem_cons_of_mem _ hx)) with e | k
      · have c := s1 x hx; rw [e, ltN_irr] at c; cases c
      · exact k
def putsN (acc l : List ByteArray) : List ByteArray := l.foldl (fun a x => putN x a) acc
theorem putsN_mem {a : ByteArray} : ∀ {l acc : List ByteArray}, a ∈ putsN acc l ↔ a ∈ acc ∨ a ∈ l
  | [], acc => by simp [putsN]
  | x :: l, acc => by
    show a ∈ putsN (putN x acc) l ↔ _
    rw [putsN_mem, putN_mem, List.mem_cons]
    constructor
    · rintro ((m | m) | m)
      · exact .inr (.inl m)
      · exact .inl m
      · exact .inr (.inr m)
    · rintro (m | m | m)
      · exact .inl (.inr m)
      · exact .inl (.inl m)
      · exact .inr m
theorem putsN_rise : ∀ {l acc : List ByteArray}, Rise acc → Rise (putsN acc l)
  | [], _, r => r
  | _ :: l, _, r => putsN_rise (l := l) (putN_rise r)
def allN (S : Sr) : List ByteArray := S.zones.map (·.name) ++ S.links.map (·.name)
def namesN (S : Sr) : List ByteArray := putsN [] (allN S)
theorem namesN_rise (S : Sr) : Rise (namesN S) := putsN_rise List.Pairwise.nil
theorem namesN_uniq {S : Sr} {l : List ByteArray} (r : Rise l) (h : ∀ a, a ∈ l ↔ a ∈ allN S) : l = namesN S :=
  rise_uniq r (namesN_rise S) fun a => by
    rw [h a]
    unfold namesN
    rw [putsN_mem]
    exact ⟨.inr, fun k => k.resolve_left List.not_mem_nil⟩
end Go.Proofs.YtmhpnmlgfdomkaaGreatDoor
