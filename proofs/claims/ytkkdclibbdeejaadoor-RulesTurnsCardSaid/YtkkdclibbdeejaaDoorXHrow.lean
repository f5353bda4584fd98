/- Rows of structs in memory, as slices that came in or that a call has made show them. -/
import Derived.Test.YtkkdclibbdeejaaDoorXGa
import Derived.Deep.Slices
import Derived.ChangeOld
import Derived.DataReads
import Derived.ProofKit
set_option maxRecDepth 100000
set_option maxHeartbeats 64000000
namespace Go.Proofs.YtkkdclibbdeejaaDoor
open Go.ChangeShapes Go.WideShapes Go.RowKit Go.Deep
structure Rs (k : Nat) (w : World) (A : Option Addr) (n c : Nat) (l : List (List Value)) : Prop where
  len : l.length = n
  cap : n ≤ c
  max : c ≤ maxLen
  cells : 0 < n → ∃ g o, A = some ⟨g, o, none⟩ ∧ g < w.heap.size ∧ ∀ (i : Nat) (h : i < l.length) (j : Nat) (u : Value), l[i][j]? = some u → w.cell? ⟨g, o + i * k + j, none⟩ = some u
theorem Rs.nil (k : Nat) (w : World) : Rs k w none 0 0 [] := ⟨rfl, Nat.le_refl _, by simp [maxLen], fun h => absurd h (by omega)⟩
theorem Rs.below {k : Nat} {w w' : World} {A : Option Addr} {n c : Nat} {l : List (List Value)} (h : Rs k w A n c l) (hb : Below w.heap.size w w') : Rs k w' A n c l :=
  ⟨h.len, h.cap, h.max, fun hn => by
    obtain ⟨g, o, e, hg, hc⟩ := h.cells hn
    exact ⟨g, o, e, Nat.lt_of_lt_of_le hg hb.size, fun i hi j u hu => (hb.cell (p := ⟨g, o + i * k + j, none⟩) hg).trans (hc i hi j u hu)⟩⟩
theorem addr_add (g o i : Nat) : ((⟨g, o, none⟩ : Addr).add i) = ⟨g, o + i, none⟩ := by
  unfold Addr.add
  split
  · rename_i h; rw [h]; rfl
  · rfl
section
variable {H : Type} {enc : TypeId × Value → H} {W : World} {spare : Nat → Bool} {held : Bool}
theorem open_rows {α : Type} {t e : TypeId} {k fuel : Nat} {cs : List Value} {x : DataW H × List MemPlace} (val : α → List Value) (good : α → Prop)
    (ht : Tryd.prog.underlying t = some (.slice e)) (hk : Tryd.prog.cellsOf e = k) (k0 : 0 < k)
    (dec : ∀ (f : Nat) (ds : List Value) (y : DataW H × List MemPlace), DataW.trod enc Tryd.prog W 0 spare held f e ds = some y → ∃ x : α, ds = val x ∧ good x)
    (h : DataW.trod enc Tryd.prog W 0 spare held fuel t cs = some x) :
    ∃ (A : Option Addr) (n c : Nat) (l : List α), cs = [.slice A n c] ∧ Rs k W A n c (l.map val) ∧ n ≤ maxLen ∧ ∀ x ∈ l, good x := by
  rcases open_slice ht h with ⟨hc, _⟩ | ⟨a, len, cap, m, q, D, Pl, hc, _, hl, hm, hmm, _, hel⟩
  · exact ⟨none, 0, 0, [], hc, Rs.nil k W, by simp [maxLen], fun x hx => absurd hx (by simp)⟩
  · have main : ∀ L, L ≤ len → ∃ l : List α, l.length = L ∧ (∀ x ∈ l, good x) ∧ ∀ (i : Nat) (hi : i < l.length), W.cells? 0 (a.add (i * k)) k = some (val l[i]) := by
      intro L
      induction L with
      | zero => intro _; exact ⟨[], rfl, fun x hx => absurd hx (by simp), fun i hi => absurd hi (by simp)⟩
      | succ L ih =>
        intro hL
        obtain ⟨l, l1, l2, l3⟩ := ih (by omega)
        obtain ⟨ds, h1, h2⟩ := hel L (by rw [hmm]; split <;> omega)
        obtain ⟨y, rfl, hy⟩ := dec _ _ _ h2
        refine ⟨l ++ [y], by simp [l1], fun x hx => ?_, fun i hi => ?_⟩
        · rcases List.mem_append.1 hx with hx | hx
          · exact l2 x hx
          · rw [List.mem_singleton.1 hx]; exact hy
        · by_cases e : i < l.length
          · rw [List.getElem_append_left e]; exact l3 i e
          · have e2 : i = L := by simp at hi; omega
            subst e2
            rw [List.getElem_append_right (by omega)]
            simp only [l1, Nat.sub_self, List.getElem_cons_zero]
            rw [hk] at h1
            exact h1
    obtain ⟨l, l1, l2, l3⟩ := main len (Nat.le_refl _)
    refine ⟨some a, len, cap, l, hc, ⟨by simp [l1], hl, hm, fun h0 => ?_⟩, by omega, l2⟩
    obtain ⟨g, o, sp⟩ := a
    have c0 := l3 0 (by omega)
    have b0 := World.cells?_block c0 k0
    obtain ⟨_, z0, z1⟩ := World.cells?_some c0
    obtain rfl : sp = none := by
      cases sp with
      | none => rfl
      | some q =>
        have := z1 0 k0
        rw [List.getElem?_eq_getElem (by omega), Nat.zero_mul, show ((⟨g, o, some q⟩ : Addr).add 0) = ⟨g, o, some q⟩ from rfl, show ((⟨g, o, some q⟩ : Addr).add 0) = ⟨g, o, some q⟩ from rfl] at this
        unfold World.cell? at this
        split at this <;> simp_all
    have b1 : g < W.heap.size := by
      rw [addr_add] at b0
      exact b0
    refine ⟨g, o, rfl, b1, fun i hi j u hu => ?_⟩
    have hi' : i < l.length := by simpa using hi
    obtain ⟨_, y0, y1⟩ := World.cells?_some (l3 i hi')
    rw [List.getElem_map] at hu
    have hj : j < k := by
      have := (List.getElem?_eq_some_iff.1 hu).1
      omega
    have := y1 j hj
    rw [addr_add, addr_add, hu] at this
    exact this
theorem str_cell {e : TypeId} {n : Nat} {cs : List Value} {x : DataW H × List MemPlace} (he : Tryd.prog.underlying e = some .string) (h : DataW.trod enc Tryd.prog W 0 spare held n e cs = some x) : ∃ s : ByteArray, cs = [.string s] ∧ s.size ≤ maxLen := by
  obtain ⟨s, e1, _, e3⟩ := DataW.trod_string he h
  exact ⟨s, e1, e3⟩
theorem num_cell {e : TypeId} {n : Nat} {cs : List Value} {x : DataW H × List MemPlace} (he : Tryd.prog.underlying e = some (.int .i64)) (h : DataW.trod enc Tryd.prog W 0 spare held n e cs = some x) : ∃ k : Int, cs = [.int .i64 k] ∧ In64 k := by
  obtain ⟨k, e1, _, e3⟩ := DataW.trod_int he h
  exact ⟨k, e1, in64 e3⟩
end
end Go.Proofs.YtkkdclibbdeejaaDoor
