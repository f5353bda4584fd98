import Derived.Test.YtkkdclibbdeejaaDoorXGea
import Derived.Shelf.SlSortCmp.PdqK
import Derived.Test.YtkkdclibbdeejaaDoorXGec
import Derived.Test.YtkkdclibbdeejaaDoorXGeb
import Derived.Shelf.SlGeneric
import Derived.Shelf.Abstract
import Derived.Ground.SlsfProg
import Derived.Laws.OwnMore
set_option maxRecDepth 100000
set_option maxHeartbeats 64000000
namespace Go.Proofs.YtkkdclibbdeejaaDoor
open Go.RowKit
instance instTnI : Inhabited Tn := ⟨Tn.zero⟩
abbrev Tg : Type := Tn × Nat
def cfT (x y : Tg) : Int := Lib.compareInt x.1.at_ y.1.at_
def keyB (x y : Tg) : Bool := decide (x.1.at_ < y.1.at_)
def lexB (x y : Tg) : Bool := decide (x.1.at_ < y.1.at_ ∨ (x.1.at_ = y.1.at_ ∧ x.2 < y.2))
theorem ltOf_cfT : ltOf cfT = keyB := by
  funext x y
  unfold ltOf cfT Lib.compareInt keyB
  by_cases h1 : x.1.at_ < y.1.at_
  · simp [h1]
  · by_cases h2 : y.1.at_ < x.1.at_ <;> simp [h1, h2]
theorem swo_key : Sort.SWO (ltOf cfT) := by
  rw [ltOf_cfT]
  exact ⟨fun x => by unfold keyB; simp, fun x y z h1 h2 => by unfold keyB at *; simp at *; omega, fun x y z h1 h2 => by unfold keyB at *; simp at *; omega⟩
theorem swo_lex : Sort.SWO lexB :=
  ⟨fun x => by unfold lexB; simp, fun x y z h1 h2 => by unfold lexB at *; simp at *; omega, fun x y z h1 h2 => by unfold lexB at *; simp at *; omega⟩
theorem lex_key {x y : Tg} (h : y.2 < x.2) : keyB x y = lexB x y := by
  unfold keyB lexB
  by_cases c : x.1.at_ < y.1.at_
  · simp [c]
  · simp only [c, false_or, decide_false]
    symm
    rw [decide_eq_false_iff_not]
    omega
theorem get_swp (d : Array Tg) {i j : Nat} (hi : i < d.size) (hj : j < d.size) (ne : i ≠ j) (k : Nat) : (Sort.swp d i j)[k]! = if k = j then d[i]! else if k = i then d[j]! else d[k]! := by
  by_cases e : k = j
  · subst e; rw [if_pos rfl]; exact Sort.swp_right d i k hj
  · rw [if_neg e]
    by_cases e2 : k = i
    · subst e2; rw [if_pos rfl]; exact Sort.swp_left d k j hi ne
    · rw [if_neg e2]; exact Sort.swp_other d i j k e2 e
theorem inner_agree (a i : Nat) : ∀ (j : Nat) (d : Array Tg), j ≤ i → i < d.size → (∀ p, a ≤ p → p ≤ i → p ≠ j → d[p]!.2 < d[j]!.2) → Sort.insInner keyB a j d = Sort.insInner lexB a j d
  | 0, d, _, _, _ => rfl
  | j + 1, d, hj, hi, h => by
    unfold Sort.insInner
    by_cases c : j + 1 > a
    · have k := h j (by omega) (by omega) (by omega)
      rw [lex_key k]
      split
      · refine inner_agree a i j _ (by omega) (by rw [Sort.size_swp]; exact hi) fun p h1 h2 h3 => ?_
        rw [get_swp d (by omega) (by omega) (by omega), get_swp d (by omega) (by omega) (by omega), if_pos rfl, if_neg h3]
        by_cases e : p = j + 1
        · rw [if_pos e]; exact k
        · rw [if_neg e]; exact h p h1 h2 e
      · rfl
    · rw [show (decide (j + 1 > a)) = false from decide_eq_false c]
      rfl
theorem inner_places (lt : Tg → Tg → Bool) (a i : Nat) : ∀ (j : Nat) (d : Array Tg), j ≤ i → i < d.size → (∀ q, i < q → (Sort.insInner lt a j d)[q]! = d[q]!) ∧ (∀ p, a ≤ p → p ≤ i → ∃ p', a ≤ p' ∧ p' ≤ i ∧ (Sort.insInner lt a j d)[p]! = d[p']!) ∧ (Sort.insInner lt a j d).size = d.size
  | 0, d, _, _ => ⟨fun _ _ => rfl, fun p h1 h2 => ⟨p, h1, h2, rfl⟩, rfl⟩
  | j + 1, d, hj, hi => by
    unfold Sort.insInner
    split
    · rename_i c
      have c2 : a ≤ j := by
        simp only [Bool.and_eq_true, decide_eq_true_eq] at c
        omega
      obtain ⟨h1, h2, h3⟩ := inner_places lt a i j (Sort.swp d (j + 1) j) (by omega) (by rw [Sort.size_swp]; exact hi)
      refine ⟨fun q hq => ?_, fun p hp1 hp2 => ?_, by rw [h3, Sort.size_swp]⟩
      · rw [h1 q hq, get_swp d (by omega) (by omega) (by omega), if_neg (by omega), if_neg (by omega)]
      · obtain ⟨p', k1, k2, k3⟩ := h2 p hp1 hp2
        rw [k3, get_swp d (by omega) (by omega) (by omega)]
        by_cases e : p' = j
        · rw [if_pos e]; exact ⟨j + 1, by omega, by omega, rfl⟩
        · rw [if_neg e]
          by_cases e2 : p' = j + 1
          · rw [if_pos e2]; exact ⟨j, c2, by omega, rfl⟩
          · rw [if_neg e2]; exact ⟨p', k1, k2, rfl⟩
    · exact ⟨fun _ _ => rfl, fun p h1 h2 => ⟨p, h1, h2, rfl⟩, rfl⟩
theorem outer_agree (a b : Nat) : ∀ (n i : Nat) (d : Array Tg), b - i ≤ n → a ≤ i → b ≤ d.size → (∀ p q, a ≤ p → p < q → q < b → i ≤ q → d[p]!.2 < d[q]!.2) → Sort.insOuter keyB a b i d = Sort.insOuter lexB a b i d := by
  have u : ∀ (lt : Tg → Tg → Bool) (i : Nat) (d : Array Tg), Sort.insOuter lt a b i d = if i < b then Sort.insOuter lt a b (i + 1) (Sort.insInner lt a i d) else d := fun lt i d => by rw [Sort.insOuter]
  intro n
  induction n with
  | zero =>
    intro i d hn ha hb h
    rw [u keyB i d, u lexB i d, if_neg (by omega), if_neg (by omega)]
  | succ n ih =>
    intro i d hn ha hb h
    rw [u keyB i d, u lexB i d]
    by_cases c : i < b
    · rw [if_pos c, if_pos c, inner_agree a i i d (Nat.le_refl _) (by omega) (fun p h1 h2 h3 => h p i h1 (by omega) c (Nat.le_refl _))]
      obtain ⟨k1, k2, k3⟩ := inner_places lexB a i i d (Nat.le_refl _) (by omega)
      refine ih (i + 1) _ (by omega) (by omega) (by rw [k3]; exact hb) fun p q h1 h2 h3 h4 => ?_
      rw [k1 q (by omega)]
      by_cases e : i < p
      · rw [k1 p e]; exact h p q h1 h2 h3 (by omega)
      · obtain ⟨p', m1, m2, m3⟩ := k2 p h1 (by omega)
        rw [m3]
        exact h p' q m1 (by omega) h3 (by omega)
    · rw [if_neg c, if_neg c]
theorem ins_stable {d : Array Tg} {a b : Nat} (ha : a ≤ b) (hb : b ≤ d.size) (h : ∀ p q, a ≤ p → p < q → q < b → d[p]!.2 < d[q]!.2) :
    Sort.PermIn a b d (Sort.insertionSort (ltOf cfT) d a b) ∧ Sort.SortedIn lexB a b (Sort.insertionSort (ltOf cfT) d a b) := by
  have e : Sort.insertionSort (ltOf cfT) d a b = Sort.insertionSort lexB d a b := by
    rw [ltOf_cfT]
    exact outer_agree a b (b - (a + 1)) (a + 1) d (Nat.le_refl _) (by omega) hb (fun p q h1 h2 h3 _ => h p q h1 h2 h3)
  rw [e]
  exact Sort.insertionSort_holds swo_lex d a b ha hb
def lexLe (x y : Tg) : Prop := lexB y x = false
theorem permIn_list {d d' : Array Tg} (h : Sort.PermIn 0 d.size d d') : d'.toList.Perm d.toList := by
  have s := h.1
  have p := h.2.2
  rw [Array.extract_size] at p
  rw [← s, Array.extract_size] at p
  exact p
theorem sorted_list {d : Array Tg} (h : Sort.SortedIn lexB 0 d.size d) : d.toList.Pairwise lexLe := by
  rw [List.pairwise_iff_getElem]
  intro i j hi hj l
  have := h i j (Nat.zero_le _) l (by simpa using hj)
  rw [getElem!_pos d i (by simpa using hi), getElem!_pos d j (by simpa using hj)] at this
  simpa [lexLe] using this
def cutPE (t : Tn) (l : List Tg) : Nat := cutK t (l.map (·.1)) l.length
def insP (p : Tg) (l : List Tg) : List Tg := l.take (cutPE p.1 l) ++ [p] ++ l.drop (cutPE p.1 l)
theorem insP_fst (p : Tg) (l : List Tg) : (insP p l).map (·.1) = insT p.1 (l.map (·.1)) := by
  unfold insP insT cutPE
  rw [List.map_append, List.map_append, List.map_take, List.map_drop, List.length_map]
  rfl
theorem insP_perm (p : Tg) (l : List Tg) : (insP p l).Perm (p :: l) := by
  unfold insP
  rw [List.append_assoc]
  have := @List.perm_middle _ p (l.take (cutPE p.1 l)) (l.drop (cutPE p.1 l))
  rw [List.take_append_drop] at this
  exact this
theorem cutK_spec (t : Tn) (l : List Tn) : ∀ n, n ≤ l.length → (∀ q u, cutK t l n ≤ q → q < n → l[q]? = some u → t.at_ < u.at_) ∧ (∀ u, 0 < cutK t l n → l[cutK t l n - 1]? = some u → u.at_ ≤ t.at_)
  | 0, _ => ⟨fun q u _ h => absurd h (by omega), fun u h => absurd h (by unfold cutK; omega)⟩
  | n + 1, hn => by
    unfold cutK
    have hu : l[n]? = some l[n] := List.getElem?_eq_getElem (by omega)
    have hd : l.getD n Tn.zero = l[n] := by rw [List.getD_eq_getElem?_getD, hu]; rfl
    rw [hd]
    by_cases c : t.at_ < l[n].at_
    · rw [if_pos c]
      obtain ⟨h1, h2⟩ := cutK_spec t l n (by omega)
      refine ⟨fun q u k1 k2 k3 => ?_, h2⟩
      by_cases e : q = n
      · subst e; rw [hu] at k3; cases k3; exact c
      · exact h1 q u k1 (by omega) k3
    · rw [if_neg c]
      refine ⟨fun q u k1 k2 => absurd k2 (by omega), fun u _ k => ?_⟩
      rw [Nat.add_sub_cancel, hu] at k
      cases k
      omega
theorem lexLe_at {x y : Tg} (h : lexLe x y) : x.1.at_ ≤ y.1.at_ := by
  unfold lexLe lexB at h
  simp at h
  omega
theorem insP_pair {p : Tg} {l : List Tg} (h : l.Pairwise lexLe) (k : ∀ x ∈ l, x.2 < p.2) : (insP p l).Pairwise lexLe := by
  have hc := cutK_le p.1 (l.map (·.1)) l.length
  obtain ⟨s1, s2⟩ := cutK_spec p.1 (l.map (·.1)) l.length (by simp)
  unfold insP cutPE
  generalize cutK p.1 (l.map (·.1)) l.length = c at *
  have hp := List.pairwise_iff_getElem.1 h
  have up : ∀ x ∈ l.take c, lexLe x p := fun x hx => by
    obtain ⟨i, hi, e⟩ := List.mem_iff_getElem.1 hx
    rw [List.length_take] at hi
    rw [List.getElem_take] at e
    have m := k x (by rw [← e]; exact List.getElem_mem _)
    have le : x.1.at_ ≤ p.1.at_ := by
      have b := s2 (l[c - 1]'(by omega)).1 (by omega) (by rw [List.getElem?_map, List.getElem?_eq_getElem (by omega)]; rfl)
      by_cases e2 : i = c - 1
      · subst e2; rw [← e]; exact b
      · have := lexLe_at (hp i (c - 1) (by omega) (by omega) (by omega))
        rw [e] at this
        omega
    unfold lexLe lexB
    simp
    omega
  have dn : ∀ x ∈ l.drop c, lexLe p x := fun x hx => by
    obtain ⟨i, hi, e⟩ := List.mem_iff_getElem.1 hx
    rw [List.length_drop] at hi
    rw [List.getElem_drop] at e
    have b := s1 (c + i) x.1 (by omega) (by omega) (by rw [List.getElem?_map, List.getElem?_eq_getElem (by omega), e]; rfl)
    unfold lexLe lexB
    simp
    omega
  rw [List.append_assoc, List.pairwise_append]
  refine ⟨h.sublist (List.take_sublist _ _), ?_, fun x hx y hy => ?_⟩
  · rw [List.singleton_append, List.pairwise_cons]
    exact ⟨dn, h.sublist (List.drop_sublist _ _)⟩
  · rw [List.singleton_append, List.mem_cons] at hy
    rcases hy with rfl | hy
    · exact up x hx
    · obtain ⟨i, hi, e⟩ := List.mem_iff_getElem.1 hx
      obtain ⟨j, hj, e2⟩ := List.mem_iff_getElem.1 hy
      rw [List.length_take] at hi
      rw [List.length_drop] at hj
      rw [List.getElem_take] at e
      rw [List.getElem_drop] at e2
      rw [← e, ← e2]
      exact hp i (c + j) (by omega) (by omega) (by omega)
def insAll : List Tg → List Tg → List Tg
  | [], out => out
  | p :: r, out => insAll r (insP p out)
theorem insAll_perm : ∀ (r out : List Tg), (insAll r out).Perm (r ++ out)
  | [], _ => List.Perm.refl _
  | p :: r, out => (insAll_perm r _).trans ((List.Perm.append_left r (insP_perm p out)).trans List.perm_middle)
theorem insAll_pair : ∀ (r out : List Tg), out.Pairwise lexLe → (∀ x ∈ out, ∀ y ∈ r, x.2 < y.2) → r.Pairwise (fun x y => x.2 < y.2) → (insAll r out).Pairwise lexLe
  | [], _, h, _, _ => h
  | p :: r, out, h, k, m => by
    rw [List.pairwise_cons] at m
    refine insAll_pair r _ (insP_pair h fun x hx => k x hx p (List.mem_cons_self ..)) (fun x hx y hy => ?_) m.2
    rcases List.mem_cons.1 ((insP_perm p out).mem_iff.1 hx) with rfl | hx
    · exact m.1 y hy
    · exact k x hx y (List.mem_cons_of_mem _ hy)
def insLs : List Tn → List Tn → List Tn
  | [], out => out
  | t :: r, out => insLs r (insT t out)
theorem insAll_fst : ∀ (r out : List Tg), (insAll r out).map (·.1) = insLs (r.map (·.1)) (out.map (·.1))
  | [], _ => rfl
  | p :: r, out => by
    show (insAll r (insP p out)).map (·.1) = _
    rw [insAll_fst r, insP_fst]
    rfl
theorem turnsGo_ins (y : Int) : ∀ (L : List Rl) (out : List Tn), turnsGo y L out = insLs (baseT L y) out
  | [], _ => rfl
  | x :: r, out => by
    unfold turnsGo baseT
    by_cases h : turnIn x y
    · rw [if_pos h, List.filter_cons_of_pos (by simpa using h), List.map_cons]
      exact turnsGo_ins y r _
    · rw [if_neg h, List.filter_cons_of_neg (by simpa using h)]
      exact turnsGo_ins y r _
def tagged (l : List Tn) : Array Tg := (l.zipIdx).toArray
theorem tagged_size (l : List Tn) : (tagged l).size = l.length := by unfold tagged; simp
theorem tagged_at (l : List Tn) {i : Nat} (h : i < l.length) : (tagged l)[i]! = (l[i], i) := by
  rw [getElem!_pos _ i (by rw [tagged_size]; exact h)]
  unfold tagged
  simp
theorem sorted_is {l : List Tn} {d : Array Tg} (hp : Sort.PermIn 0 (tagged l).size (tagged l) d) (hs : Sort.SortedIn lexB 0 d.size d) : d.toList.map (·.1) = insLs l [] := by
  have e : d.toList = insAll l.zipIdx [] := by
    have p1 : d.toList.Perm l.zipIdx := by
      have := permIn_list hp
      unfold tagged at this
      exact this
    have p2 := insAll_perm l.zipIdx []
    rw [List.append_nil] at p2
    refine List.Perm.eq_of_pairwise (le := lexLe) (fun a b ha hb h1 h2 => ?_) (sorted_list hs) (insAll_pair _ _ List.Pairwise.nil (fun x hx => by cases hx) ?_) (p1.trans p2.symm)
    · have m1 := p1.mem_iff.1 ha
      have m2 := p2.mem_iff.1 hb
      have i : a.2 = b.2 := by
        unfold lexLe lexB at h1 h2
        simp at h1 h2
        omega
      obtain ⟨a1, a2⟩ := a
      obtain ⟨b1, b2⟩ := b
      simp only at i
      subst i
      obtain ⟨_, _, q1⟩ := List.mem_zipIdx m1
      obtain ⟨_, _, q2⟩ := List.mem_zipIdx m2
      rw [q1, q2]
    · rw [List.pairwise_iff_getElem]
      intro i j hi hj lt
      rw [List.getElem_zipIdx, List.getElem_zipIdx]
      show 0 + i < 0 + j
      omega
  rw [e, insAll_fst, List.zipIdx_map_fst]
  rfl
end Go.Proofs.YtkkdclibbdeejaaDoor
namespace Go.Proofs.YtkkdclibbdeejaaDoor
open Go.Shelf Go.RowKit Go.Lib
def insl_ren : Go.Shelf.Ren := ⟨fun | 20 => 57 | n => n, fun | 24 => 35 | 22 => 24 | 3 => 3 | 25 => 48 | 4 => 4 | 0 => 0 | n => n, fun | n => n⟩
theorem insl : Go.Proofs.SlLaysF0.n20 Tryd.prog insl_ren := {
  mixed := by kernel_rfl
  f20 := ⟨Tryd.f57.name, by decide, Tryd.func57.trans (congrArg some (by kernel_rfl))⟩
  t0 := Tryd.underlying0
  a0 := Tryd.isAgg0
  z0 := Tryd.sizeOf0
  v0 := Tryd.zeroValue0
  t3 := Tryd.underlying3
  a3 := Tryd.isAgg3
  z3 := Tryd.sizeOf3
  v3 := Tryd.zeroValue3
  t4 := Tryd.underlying4
  a4 := Tryd.isAgg4
  z4 := Tryd.sizeOf4
  v4 := Tryd.zeroValue4
  t22 := Tryd.underlying24
  a22 := Tryd.isAgg24
  z22 := Tryd.sizeOf24
  v22 := Tryd.zeroValue24
  t25 := Tryd.underlying48
  a25 := Tryd.isAgg48
  z25 := Tryd.sizeOf48
  v25 := Tryd.zeroValue48 }
def encT (p : Tg) : List Value := p.1.vals
theorem encT_len (p : Tg) : (encT p).length = 4 := rfl
theorem encT_one (p : Tg) : ∀ v ∈ encT p, v.oneCell' = true := fun u h => by
  simp only [encT, Tn.vals, List.mem_cons, List.not_mem_nil, or_false] at h
  rcases h with rfl | rfl | rfl | rfl <;> rfl
theorem nanE (a : Int) (W : World) : Calls Tryd.prog 45 #[.int .i64 a] W (fun e w' => e = .returned (.bool false) ∧ w' = W) := by
  go_enter Tryd.func45, Tryd.ntmps45
  go_wp2
  go_ret
  exact ⟨by simp, rfl⟩
theorem compareE (a b : Int) (W : World) : Calls Tryd.prog 28 #[.int .i64 a, .int .i64 b] W (fun e w' => e = .returned (.int .i64 (Lib.compareInt a b)) ∧ w' = W) := by
  have NA := Lib.hid (fun a W => nanE a W)
  by_cases h1 : a < b
  · have E := Lib.hid (show Lib.compareInt a b = -1 by unfold Lib.compareInt; rw [if_pos h1])
    have d1 : decide (a < b) = true := decide_eq_true h1
    go_enter Tryd.func28, Tryd.ntmps28
    go_wp2_with (go_at_call 45; refine (NA.out _ _).mono ?_; rintro e w' ⟨rfl, rfl⟩)
    go_ret
    exact ⟨by rw [E.out]; rfl, rfl⟩
  · have d1 : decide (a < b) = false := decide_eq_false h1
    by_cases h2 : b < a
    · have E := Lib.hid (show Lib.compareInt a b = 1 by unfold Lib.compareInt; rw [if_neg h1, if_pos h2])
      have d2 : decide (b < a) = true := decide_eq_true h2
      go_enter Tryd.func28, Tryd.ntmps28
      go_wp2_with (go_at_call 45; refine (NA.out _ _).mono ?_; rintro e w' ⟨rfl, rfl⟩)
      go_ret
      exact ⟨by rw [E.out]; rfl, rfl⟩
    · have E := Lib.hid (show Lib.compareInt a b = 0 by unfold Lib.compareInt; rw [if_neg h1, if_neg h2])
      have d2 : decide (b < a) = false := decide_eq_false h2
      go_enter Tryd.func28, Tryd.ntmps28
      go_wp2_with (go_at_call 45; refine (NA.out _ _).mono ?_; rintro e w' ⟨rfl, rfl⟩)
      go_ret
      exact ⟨by rw [E.out]; rfl, rfl⟩
theorem cmpTE (x y : Tg) (W : World) : Calls Tryd.prog 27 #[.agg (encT x).toArray, .agg (encT y).toArray] W fun e w' => e = .returned (.int .i64 (cfT x y)) ∧ ∃ q os', w' = Sort.grow (W.drewN q) os' := by
  obtain ⟨⟨ta, tr, ts, tl⟩, i⟩ := x
  obtain ⟨⟨ua, ur, us, ul⟩, j⟩ := y
  show Calls Tryd.prog 27 #[.agg #[.int .i64 ta, .int .i64 tr, .int .i64 ts, .string tl], .agg #[.int .i64 ua, .int .i64 ur, .int .i64 us, .string ul]] W fun e w' => e = .returned (.int .i64 (Lib.compareInt ta ua)) ∧ ∃ q os', w' = Sort.grow (W.drewN q) os'
  have hcon := Lib.hid (fun W' => compareE ta ua W')
  generalize Lib.compareInt ta ua = r at hcon ⊢
  go_enter Tryd.func27, Tryd.ntmps27
  go_wp2_with (go_at_call 28; refine (hcon.out _).mono ?_; clear hcon; rintro e w' ⟨rfl, rfl⟩)
  go_ret
  exact ⟨rfl, 0, _, by rw [Sort.alloc_eq_grow, Sort.alloc_eq_grow, Sort.grow_grow]; rfl⟩
theorem cmpLT (blk off size : Nat) (w : World) : CmpLays Tryd.prog 27 #[] encT 4 cfT blk off size w := fun _ _ _ _ x y => cmpTE x y _
theorem eg_cmp : ∀ args w, (callFunc 27 args).run Tryd.prog w = .ok (.enter 27 args) w := enters_of Tryd.func27 (by kernel_rfl) rfl
theorem insE {blk cap a b : Nat} {d0 d : Array Tg} {w0 w : World} (R : RowK encT 4 w0 blk 0 d0) (hs : d0.size = d.size) (S : SWK encT 4 w0 blk 0 d w) (hab : a ≤ b) (hb : b ≤ d.size) (hsz : d.size < 1000000) :
    Calls Tryd.prog 57 #[.slice (some ⟨blk, 0, none⟩) d.size cap, .int .i64 a, .int .i64 b, .func (.func 27) #[] #[]] w fun e w' => e = .returned (.tuple #[]) ∧ SWK encT 4 w0 blk 0 (Sort.insertionSort (ltOf cfT) d a b) w' :=
  AnyQ.insertionSortCmpFunc_w insl 4 Tryd.isAgg35 Tryd.sizeOf35 encT cfT 27 #[] blk 0 cap a b d0 d w0 w eg_cmp (cmpLT blk 0 d0.size w0) R hs S swo_key hab hb (by omega)
end Go.Proofs.YtkkdclibbdeejaaDoor
namespace Go.Proofs.YtkkdclibbdeejaaDoor
open Go.RowKit
theorem insNoneE (A : Option Addr) (c : Nat) (K : Value) (W : World) : Calls Tryd.prog 57 #[.slice A 0 c, .int .i64 0, .int .i64 0, K] W (fun e w' => e = .returned (.tuple #[]) ∧ w' = W) := by
  go_enter Tryd.func57, Tryd.ntmps57
  go_wp2_with fail
  go_loopw [8] (fun v8 wr => v8 = .int .i64 1 ∧ wr = W) (fun _ _ => 0)
  case atStart => exact ⟨rfl, rfl⟩
  case round =>
    obtain ⟨rfl, rfl⟩ := hrel
    go_wp2
    go_end0
    exact ⟨rfl, rfl⟩
theorem stableNoneE (A : Option Addr) (c : Nat) (K : Value) (W : World) : Calls Tryd.prog 44 #[.slice A 0 c, .int .i64 0, K] W (fun e w' => e = .returned (.tuple #[]) ∧ w' = W) := by
  have IN := Lib.hid (fun W' => insNoneE A c K W')
  go_enter Tryd.func44, Tryd.ntmps44
  go_wp2_with fail
  go_loopw [7, 8] (fun v7 v8 wr => v7 = .int .i64 0 ∧ v8 = .int .i64 20 ∧ wr = W) (fun _ _ _ => 0)
  case atStart => exact ⟨rfl, rfl, rfl⟩
  case round =>
    obtain ⟨rfl, rfl, rfl⟩ := hrel
    go_wp2_with (go_at_call 57; refine (IN.out _).mono ?_; clear IN; rintro e w' ⟨rfl, rfl⟩)
    go_loopw [6] (fun v6 wr => v6 = .int .i64 20 ∧ wr = w') (fun _ _ => 0)
    case atStart => exact ⟨rfl, rfl⟩
    case round =>
      obtain ⟨rfl, rfl⟩ := hrel
      go_wp2
      go_end0
      exact ⟨rfl, rfl⟩
theorem sortNoneE (A : Option Addr) (c : Nat) (K : Value) (W : World) : Calls Tryd.prog 26 #[.slice A 0 c, K] W (fun e w' => e = .returned (.tuple #[]) ∧ w' = W) := by
  have IN := Lib.hid (fun W' => stableNoneE A c K W')
  go_enter Tryd.func26, Tryd.ntmps26
  go_wp2_with (go_at_call 44; refine (IN.out _).mono ?_; clear IN; rintro e w' ⟨rfl, rfl⟩)
  go_end0
  exact ⟨rfl, rfl⟩
theorem stableSmallE {blk cap n : Nat} {d : Array Tg} {w : World} (R : RowK encT 4 w blk 0 d) (hd : d.size = n) (hn : n < 20) :
    Calls Tryd.prog 44 #[.slice (some ⟨blk, 0, none⟩) n cap, .int .i64 n, .func (.func 27) #[] #[]] w (fun e w' => e = .returned (.tuple #[]) ∧ SWK encT 4 w blk 0 (Sort.insertionSort (ltOf cfT) d 0 n) w') := by
  have IN := insE (cap := cap) (a := 0) (b := n) R rfl (SWK.start R.hH) (Nat.zero_le _) (by omega) (by omega)
  rw [hd] at IN
  have IN := Lib.hid IN
  clear R hd
  go_enter Tryd.func44, Tryd.ntmps44
  go_wp2_with fail
  go_loopw [7, 8] (fun v7 v8 wr => v7 = .int .i64 0 ∧ v8 = .int .i64 20 ∧ wr = w) (fun _ _ _ => 0)
  case atStart => exact ⟨rfl, rfl, rfl⟩
  case round =>
    obtain ⟨rfl, rfl, rfl⟩ := hrel
    go_wp2_with (go_at_call 57; refine IN.out.mono ?_; clear IN; rintro e w' ⟨rfl, hS⟩)
    go_loopw [6] (fun v6 wr => v6 = .int .i64 20 ∧ wr = w') (fun _ _ => 0)
    case atStart => exact ⟨rfl, rfl⟩
    case round =>
      obtain ⟨rfl, rfl⟩ := hrel
      go_wp2
      go_end0
      exact ⟨rfl, hS⟩
def SortsT (M : Nat) : Prop := ∀ (blk cap n : Nat) (l : List Tn) (w : World), RowK encT 4 w blk 0 (tagged l) → l.length = n → n ≤ M →
    Calls Tryd.prog 26 #[.slice (some ⟨blk, 0, none⟩) n cap, .func (.func 27) #[] #[]] w (fun e w' => e = .returned (.tuple #[]) ∧ ∃ d, Sort.PermIn 0 (tagged l).size (tagged l) d ∧ Sort.SortedIn lexB 0 d.size d ∧ SWK encT 4 w blk 0 d w')
theorem tagged_rise (l : List Tn) : ∀ p q, 0 ≤ p → p < q → q < (tagged l).size → (tagged l)[p]!.2 < (tagged l)[q]!.2 := fun p q _ h1 h2 => by
  rw [tagged_size] at h2
  rw [tagged_at l (by omega), tagged_at l h2]
  exact h1
theorem sortSmallE : SortsT 19 := by
  unfold SortsT
  intro blk cap n l w R hl hn
  have hd : (tagged l).size = n := (tagged_size l).trans hl
  have hr := tagged_rise l
  generalize tagged l = t at *
  have ST := stableSmallE (cap := cap) R hd (by omega)
  obtain ⟨h1, h2⟩ := ins_stable (d := t) (a := 0) (b := n) (Nat.zero_le _) (by omega) (by rw [← hd]; exact hr)
  obtain ⟨d', hd'⟩ : ∃ d', d' = Sort.insertionSort (ltOf cfT) t 0 n := ⟨_, rfl⟩
  rw [← hd'] at ST h1 h2
  have hz := h1.1.trans hd
  have FIN := Lib.hid (show ∀ w', SWK encT 4 w blk 0 d' w' → ∃ d, Sort.PermIn 0 t.size t d ∧ Sort.SortedIn lexB 0 d.size d ∧ SWK encT 4 w blk 0 d w' from fun w' h => ⟨d', by rw [hd]; exact h1, by rw [hz]; exact h2, h⟩)
  have ST := Lib.hid ST
  clear R hl hd h1 h2 hz hd' hr
  go_enter Tryd.func26, Tryd.ntmps26
  go_wp2_with (go_at_call 44; refine ST.out.mono ?_; clear ST; rintro e w' ⟨rfl, hS⟩)
  go_end0
  exact ⟨rfl, FIN.out _ hS⟩
theorem base_next {L : List Rl} {k : Nat} {x : Rl} (hx : L[k]? = some x) (y : Int) : baseT (L.take (k + 1)) y = baseT (L.take k) y ++ (if turnIn x y then [turnT x y] else []) := by
  unfold baseT
  rw [List.take_add_one, hx, List.filter_append, List.map_append]
  by_cases h : turnIn x y
  · simp [h]
  · simp [h]
theorem base_len (L : List Rl) (y : Int) (k : Nat) : (baseT (L.take k) y).length ≤ k := by
  unfold baseT
  rw [List.length_map]
  exact Nat.le_trans (List.length_filter_le _ _) (by rw [List.length_take]; omega)
theorem own_holds {w : World} {b g c : Nat} {l : List Tn} (h : OwnT w b (.slice (some ⟨g, 0, none⟩) l.length c) l) : RowK encT 4 w g 0 (tagged l) := by
  refine ⟨encT_len, encT_one, fun j hj => ?_, (World.ownsRow.lt h g rfl).2⟩
  rw [Sort.size_flatK, tagged_size] at hj
  have hi : j / 4 < l.length := by omega
  refine ⟨?_, World.ownsRow.frozenAt h (0 + j)⟩
  rw [Nat.zero_add, World.ownsRow.cellAt h j hj, Sort.get_flatK _ _ _ _ (by rw [tagged_size]; exact hj), tagged_at l hi]
  have e := flat_at (List.getElem?_eq_getElem hi) (j % 4) (by omega)
  rw [show j / 4 * 4 + j % 4 = j by omega] at e
  rw [e]
  have q : j % 4 < l[j / 4].vals.length := by show j % 4 < 4; omega
  rw [List.getElem?_eq_getElem q]
  show some _ = some ((l[j / 4].vals)[j % 4]!)
  rw [getElem!_pos (l[j / 4].vals) (j % 4) q]
theorem swk_below {W W' : World} {g n : Nat} {d : Array Tg} (hn : n ≤ g) (hg : g < W.heap.size) (S : SWK encT 4 W g 0 d W') : Below n W W' := by
  obtain ⟨m, os, rfl⟩ := S
  refine ⟨rfl, rfl, rfl, ?_, fun k hk => ?_⟩
  · unfold sortWorldK
    rw [Sort.size_grow, Sort.size_putRowK]
    show W.heap.size ≤ W.heap.size + _
    omega
  · unfold sortWorldK
    have kg : k < (Sort.putRowK encT 4 (Sort.ahead W m) g 0 d).heap.size := by
      rw [Sort.size_putRowK]; show k < W.heap.size; omega
    have e : (Sort.putRowK encT 4 (Sort.ahead W m) g 0 d).heap[k]? = W.heap[k]? := by
      show (W.heap.modify g _)[k]? = _
      rw [Array.getElem?_modify, if_neg (by omega)]
    rw [Sort.heap_grow_old _ _ kg, e]
theorem swk_rows {W W' : World} {g n c : Nat} {l : List Tn} {d : Array Tg} (R : RowK encT 4 W g 0 (tagged l)) (S : SWK encT 4 W g 0 d W') (hs : d.size = n) (hl : l.length = n) (hc : n ≤ c) (hm : c ≤ maxLen) : Rs 4 W' (some ⟨g, 0, none⟩) n c (d.toList.map (fun p => p.1.vals)) := by
  have hH := S.holds R.hblk R.hH (by rw [hs, tagged_size, hl])
  refine ⟨by simp [hs], hc, hm, fun _ => ⟨g, 0, rfl, S.lt R.hblk, fun i hi j u hu => ?_⟩⟩
  have hi' : i < d.size := by simpa using hi
  rw [List.getElem_map] at hu
  have := HoldsK.cells hH encT_len hi' j u (by rw [getElem!_pos d i hi']; rw [Array.getElem_toList] at hu; exact hu)
  rw [addr_add] at this
  rw [Nat.zero_add] at this ⊢
  exact this
theorem turnsR_no {L : List Rl} {y : Int} (h : fitB L = false) : turnsR L y = [] := by unfold turnsR; rw [if_neg (by rw [h]; decide)]
theorem turnsR_yes {L : List Rl} {y : Int} (h : fitB L = true) : turnsR L y = insLs (baseT L y) [] := by unfold turnsR turnsL; rw [if_pos h, turnsGo_ins]
theorem turnsAE {M : Nat} (hM : M ≤ 900) (ST : SortsT M) (L : List Rl) (y : Int) (A : Option Addr) (n c : Nat) (w : World) (hm : RulV w A n c L) (LE : Lens w) (small : n ≤ M) : Calls Tryd.prog 10 #[.slice A n c, .int .i64 y] w (RetTn w (turnsR L y)) := by
  have LN := Lib.hid (show L.length = n by have := hm.len; simpa using this)
  have HA := Lib.hid hm
  have LE := Lib.hid LE
  have RP := Lib.hid (fun W (h : RulV W A n c L) => rightPE L A n c W h)
  clear hm
  cases hf : fitB L with
  | false =>
    have EN := Lib.hid (turnsR_no (y := y) hf)
    rw [hf] at RP
    clear hf
    go_enter Tryd.func10, Tryd.ntmps10
    go_wp2_with (go_at_call 12; refine (RP.out _ HA.out).mono ?_; clear RP; rintro e W9 ⟨rfl, hb⟩)
    go_ret
    exact ⟨none, 0, 0, rfl, by rw [EN.out]; exact Rs.nil 4 _, hb⟩
  | true =>
    have ER := Lib.hid (turnsR_yes (y := y) hf)
    have SN := Lib.hid (fun A' c' W => sortNoneE A' c' (.func (.func 27) #[] #[]) W)
    have SS := Lib.hid (show SortsT M from ST)
    rw [hf] at RP
    clear hf ST
    go_enter Tryd.func10, Tryd.ntmps10
    go_wp2_with (go_at_call 12; refine (RP.out _ HA.out).mono ?_; clear RP; rintro e W9 ⟨rfl, hb0⟩)
    go_loopw [5, 15] (fun v5 v15 wr => ∃ (k : Nat) (v : Value) (l : List Tn), k ≤ n ∧ v5 = v ∧ v15 = .int .i64 k ∧ l = baseT (L.take k) y ∧ OwnT wr w.heap.size v l ∧ Below w.heap.size w wr) (fun _ v _ => n - (intOf v).toNat)
    case atStart => exact ⟨0, _, [], by omega, rfl, rfl, rfl, OwnT.nil _ _, hb0⟩
    case round =>
      clear hb0
      obtain ⟨k, v, l, hk, hv, rfl, hR, HO, hbel⟩ := hrel
      replace hv := hv.symm
      subst hv
      have hl : l.length ≤ k := by rw [hR]; exact base_len L y k
      have HR := Lib.hid hR
      clear hR
      by_cases h4 : k < n
      · obtain ⟨x, hxx⟩ : ∃ x, L[k]? = some x := ⟨_, List.getElem?_eq_getElem (by rw [LN.out]; exact h4)⟩
        obtain ⟨g, o, ea0, hg, ca⟩ := (HA.out.below hbel).cells (by omega)
        subst ea0
        have ra := row_at ca (show (L.map Rl.vals)[k]? = some (Rl.vals x) by rw [List.getElem?_map, hxx]; rfl)
        have HN := base_next hxx y
        rw [← HR.out] at HN
        have TR := fun W L => turnE x y W L
        obtain ⟨X, hX⟩ : ∃ X, X = x := ⟨_, rfl⟩
        rw [← hX] at HN
        rw [← hX] at TR
        have HX := Lib.hid hX
        have HN := Lib.hid HN
        clear hX HR
        obtain ⟨nm, fr, last, ⟨mo, ki, wd, da, ti, re⟩, save, le⟩ := x
        have x0 : wr.cell? ⟨g, o + k * 11, none⟩ = some (.string nm) := ra 0 _ rfl
        have x1 : wr.cell? ⟨g, o + k * 11 + 1, none⟩ = some (.int .i64 fr) := ra 1 _ rfl
        have x2 : wr.cell? ⟨g, o + k * 11 + 2, none⟩ = some (.int .i64 last) := ra 2 _ rfl
        have x3 : wr.cell? ⟨g, o + k * 11 + 3, none⟩ = some (.int .i64 mo) := ra 3 _ rfl
        have x4 : wr.cell? ⟨g, o + k * 11 + 4, none⟩ = some (.int .i64 ki) := ra 4 _ rfl
        have x5 : wr.cell? ⟨g, o + k * 11 + 5, none⟩ = some (.int .i64 wd) := ra 5 _ rfl
        have x6 : wr.cell? ⟨g, o + k * 11 + 6, none⟩ = some (.int .i64 da) := ra 6 _ rfl
        have x7 : wr.cell? ⟨g, o + k * 11 + 7, none⟩ = some (.int .i64 ti) := ra 7 _ rfl
        have x8 : wr.cell? ⟨g, o + k * 11 + 8, none⟩ = some (.int .i64 re) := ra 8 _ rfl
        have x9 : wr.cell? ⟨g, o + k * 11 + 9, none⟩ = some (.int .i64 save) := ra 9 _ rfl
        have x10 : wr.cell? ⟨g, o + k * 11 + 10, none⟩ = some (.string le) := ra 10 _ rfl
        clear ca ra hxx
        replace TR := Lib.hid (fun W (L : Lens W) => (show Calls Tryd.prog 25 #[.agg #[.string nm, .int .i64 fr, .int .i64 last, .int .i64 mo, .int .i64 ki, .int .i64 wd, .int .i64 da, .int .i64 ti, .int .i64 re, .int .i64 save, .string le], .int .i64 y] W (RetTB W (turnO X y)) from by rw [show (Value.agg #[.string nm, .int .i64 fr, .int .i64 last, .int .i64 mo, .int .i64 ki, .int .i64 wd, .int .i64 da, .int .i64 ti, .int .i64 re, .int .i64 save, .string le]) = X.val from by rw [HX.out]; rfl]; exact TR W L))
        go_upto_region 7 with (fail)
        have KB := blk_lit wr 33 [.string nm, .int .i64 fr, .int .i64 last, .int .i64 mo, .int .i64 ki, .int .i64 wd, .int .i64 da, .int .i64 ti, .int .i64 re, .int .i64 save, .string le]
        have hk0 := below_box wr (.cells #[.string nm, .int .i64 fr, .int .i64 last, .int .i64 mo, .int .i64 ki, .int .i64 wd, .int .i64 da, .int .i64 ti, .int .i64 re, .int .i64 save, .string le] 33)
        have hb := below_thru hbel hk0
        replace HO := OwnT.kept HO hk0
        rw [show ([.string nm, .int .i64 fr, .int .i64 last, .int .i64 mo, .int .i64 ki, .int .i64 wd, .int .i64 da, .int .i64 ti, .int .i64 re, .int .i64 save, .string le] : List Value).toArray = #[.string nm, .int .i64 fr, .int .i64 last, .int .i64 mo, .int .i64 ki, .int .i64 wd, .int .i64 da, .int .i64 ti, .int .i64 re, .int .i64 save, .string le] from rfl] at KB
        clear hk0 x0 x1 x2 x3 x4 x5 x6 x7 x8 x9 x10 hbel
        generalize wr.alloc (.cells #[.string nm, .int .i64 fr, .int .i64 last, .int .i64 mo, .int .i64 ki, .int .i64 wd, .int .i64 da, .int .i64 ti, .int .i64 re, .int .i64 save, .string le] 33) = W at *
        generalize wr.heap.size = bb at *
        obtain ⟨y0, y1, y2, y3, y4, y5, y6, y7, y8, y9, y10⟩ := KB.elevenC
        by_cases h6 : turnIn X y
        · have TX := TR.out
          rw [turnO_some h6] at TX
          obtain ⟨t, ht⟩ : ∃ t, t = turnT X y := ⟨_, rfl⟩
          rw [← ht] at TX
          have N2 := Lib.hid (show baseT (L.take (k + 1)) y = l ++ [t] from by have := HN.out; rw [if_pos h6, ← ht] at this; exact this)
          clear ht HN h6 TR
          obtain ⟨ta, tr, ts, tl⟩ := t
          have TC := Lib.hid (fun W (L : Lens W) => (show Calls Tryd.prog 25 #[.agg #[.string nm, .int .i64 fr, .int .i64 last, .int .i64 mo, .int .i64 ki, .int .i64 wd, .int .i64 da, .int .i64 ti, .int .i64 re, .int .i64 save, .string le], .int .i64 y] W (fun e w' => e = .returned (.tuple #[.agg #[.int .i64 ta, .int .i64 tr, .int .i64 ts, .string tl], .bool true]) ∧ Below W.heap.size W w') from TX W L))
          clear TX
          go_upto_region 9 with (go_at_call 25; refine (TC.out _ (LE.out.mono hb)).mono ?_; clear TC; rintro e W9 ⟨rfl, hk⟩; clear y0 y1 y2 y3 y4 y5 y6 y7 y8 y9 y10 KB)
          have KT := Blk.new4 W9 (.int .i64 ta) (.int .i64 tr) (.int .i64 ts) (.string tl) 35
          have hb1 := below_box W9 (.cells #[.int .i64 ta, .int .i64 tr, .int .i64 ts, .string tl] 35)
          replace hb := below_thru (below_thru hb hk) hb1
          replace HO := (OwnT.kept HO hk).kept hb1
          clear hk hb1
          generalize W9.alloc (.cells #[.int .i64 ta, .int .i64 tr, .int .i64 ts, .string tl] 35) = W1 at *
          generalize W9.heap.size = q at *
          obtain ⟨_, q0, q1, q2, q3, _⟩ := KT.four
          have KN := blk_news (Blk.new4 W1 (.int .i64 ta) (.int .i64 tr) (.int .i64 ts) (.string tl) 35)
          have bx := below_box W1 (.cells #[.int .i64 ta, .int .i64 tr, .int .i64 ts, .string tl] 35)
          have hb2 := below_thru hb bx
          have HO2 := OwnT.kept HO bx
          have lt1 := fun r e => (World.ownsRow.lt HO r e).1
          go_upto_region 10 with (at_builtin; refine wpList_app4 _ rfl (.tmp 26) (.tmp 28) rfl w.heap.size v l [⟨ta, tr, ts, tl⟩] rfl HO2 ⟨W1.heap.size, 0, none⟩ 1 1 rfl rfl (fun j u hu => KN j u hu) (by omega) hb2.size ?_; intro v2 W2 O2 G2)
          have hb3 := hb2.grown G2 hb2.size lt1
          go_wp2
          go_roundw
          case rel => exact ⟨k + 1, v2, l ++ [⟨ta, tr, ts, tl⟩], by omega, rfl, int_eqS (by omega), N2.out.symm, O2, hb3⟩
          case measure => simp only [intOf]; omega
        · have TX := TR.out
          rw [turnO_none h6] at TX
          have N2 := Lib.hid (show baseT (L.take (k + 1)) y = l from by have := HN.out; rw [if_neg h6, List.append_nil] at this; exact this)
          clear HN h6 TR
          have TC := Lib.hid (fun W (L : Lens W) => (show Calls Tryd.prog 25 #[.agg #[.string nm, .int .i64 fr, .int .i64 last, .int .i64 mo, .int .i64 ki, .int .i64 wd, .int .i64 da, .int .i64 ti, .int .i64 re, .int .i64 save, .string le], .int .i64 y] W (fun e w' => e = .returned (.tuple #[.agg #[.int .i64 0, .int .i64 0, .int .i64 0, .string ⟨#[]⟩], .bool false]) ∧ Below W.heap.size W w') from TX W L))
          clear TX
          go_upto_region 8 with (go_at_call 25; refine (TC.out _ (LE.out.mono hb)).mono ?_; clear TC; rintro e W9 ⟨rfl, hk⟩; clear y0 y1 y2 y3 y4 y5 y6 y7 y8 y9 y10 KB)
          have hb1 := below_box W9 (.cells #[.int .i64 0, .int .i64 0, .int .i64 0, .string ⟨#[]⟩] 35)
          replace hb := below_thru (below_thru hb hk) hb1
          replace HO := (OwnT.kept HO hk).kept hb1
          clear hk hb1
          generalize W9.alloc (.cells #[.int .i64 0, .int .i64 0, .int .i64 0, .string ⟨#[]⟩] 35) = W1 at *
          go_wp2
          go_roundw
          case rel => exact ⟨k + 1, v, l, by omega, rfl, int_eqS (by omega), N2.out.symm, HO, hb⟩
          case measure => simp only [intOf]; omega
      · obtain rfl : k = n := by omega
        have Y := Lib.hid (show l = baseT L y from by have h := HR.out; rw [← LN.out, List.take_length] at h; exact h)
        obtain ⟨A', c', e, TV, nl, so⟩ := HO.tnv
        subst e
        by_cases he : l.length = 0
        · obtain rfl : l = [] := List.eq_nil_of_length_eq_zero he
          simp only [List.length_nil] at *
          go_wp2_with (go_at_call 26; refine (SN.out _ _ _).mono ?_; clear SN; rintro e w' ⟨rfl, rfl⟩)
          go_ret
          exact ⟨A', 0, c', rfl, by rw [ER.out, ← Y.out]; exact TV, hbel⟩
        · obtain ⟨g, rfl⟩ : ∃ g, A' = some ⟨g, 0, none⟩ := by
            cases A' with
            | none => exact absurd (by rw [nl rfl]; rfl) he
            | some a => obtain ⟨g', e⟩ := so a rfl; exact ⟨g', by rw [e]⟩
          have R := own_holds HO
          have lg := (World.ownsRow.lt HO g rfl).1
          have SC := Lib.hid (SS.out g c' l.length l _ R rfl (by omega))
          have cap := TV.cap
          have max := TV.max
          go_wp2_with (go_at_call 26; refine SC.out.mono ?_; clear SC; rintro e w' ⟨rfl, d, hp, hs, hS⟩)
          go_ret
          have hz : d.size = l.length := by rw [hp.1, tagged_size]
          refine ⟨_, l.length, c', rfl, ?_, hbel.trans (swk_below lg R.hblk hS)⟩
          have rows := swk_rows R hS hz rfl cap max
          have e1 := sorted_is hp hs
          rw [ER.out, ← Y.out, ← e1, List.map_map]
          exact rows
end Go.Proofs.YtkkdclibbdeejaaDoor
