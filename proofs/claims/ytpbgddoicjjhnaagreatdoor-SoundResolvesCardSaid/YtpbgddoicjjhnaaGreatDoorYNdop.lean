/- A source as the form hands it: its names are no longer than the form's reach. -/
import Derived.Test.YtpbgddoicjjhnaaGreatDoorYGhs
import Derived.Test.YtpbgddoicjjhnaaGreatDoorYYhand
import Derived.Test.YtpbgddoicjjhnaaGreatDoorYGna
import Derived.SizedLaws
set_option maxRecDepth 100000
set_option maxHeartbeats 64000000
namespace Go.Proofs.YtpbgddoicjjhnaaGreatDoor
open Go.ChangeShapes Go.WideShapes Go.RowKit Go.Deep
section
variable {H : Type} {enc : TypeId × Value → H} {W : World} {spare : Nat → Bool} {held : Bool}
theorem weights_all {P : Program} {e : TypeId} {d : DataW H} {n : Nat} : ∀ {l : List (DataW H)}, d ∈ l → n ∈ d.weights P e → n ∈ DataW.weightsAll P e l
  | x :: r, h, k => by
    rw [DataW.weightsAll, List.mem_append]
    rcases List.mem_cons.1 h with rfl | h
    · exact .inl k
    · exact .inr (weights_all h k)
theorem open_rowsR {α : Type} {t e : TypeId} {k fuel : Nat} {cs : List Value} {x : DataW H × List MemPlace} (val : α → List Value) (good : α → Prop)
    (ht : Tryz.prog.underlying t = some (.slice e)) (hk : Tryz.prog.cellsOf e = k) (k0 : 0 < k)
    (dec : ∀ (f : Nat) (ds : List Value) (y : DataW H × List MemPlace), DataW.trod enc Tryz.prog W 0 spare held f e ds = some y → (∀ n ∈ y.1.weights Tryz.prog e, n ≤ reachBytes) → ∃ x : α, ds = val x ∧ good x)
    (h : DataW.trod enc Tryz.prog W 0 spare held fuel t cs = some x) (hw : ∀ n ∈ x.1.weights Tryz.prog t, n ≤ reachBytes) :
    ∃ (A : Option Addr) (n c : Nat) (l : List α), cs = [.slice A n c] ∧ Rs k W A n c (l.map val) ∧ n ≤ maxLen ∧ ∀ x ∈ l, good x := by
  rcases open_slice ht h with ⟨hc, _⟩ | ⟨a, len, cap, m, q, D, Pl, hc, _, hl, hm, hmm, ex, hel⟩
  · exact ⟨none, 0, 0, [], hc, Rs.nil k W, by simp [maxLen], fun x hx => absurd hx (by simp)⟩
  · have main : ∀ L, L ≤ len → ∃ l : List α, l.length = L ∧ (∀ x ∈ l, good x) ∧ ∀ (i : Nat) (hi : i < l.length), W.cells? 0 (a.add (i * k)) k = some (val l[i]) := by
      intro L
      induction L with
      | zero => intro _; exact ⟨[], rfl, fun x hx => absurd hx (by simp), fun i hi => absurd hi (by simp)⟩
      | succ L ih =>
        intro hL
        obtain ⟨l, l1, l2, l3⟩ := ih (by omega)
        obtain ⟨ds, h1, h2⟩ := hel L (by rw [hmm]; split <;> omega)
        obtain ⟨y, rfl, hy⟩ := dec _ _ _ h2 (fun n hn => hw n (by
          rw [ex]
          show n ∈ DataW.weights Tryz.prog t (.slice _ _)
          unfold DataW.weights
          rw [ht]
          exact List.mem_cons_of_mem _ (List.mem_append_left _ (weights_all (List.mem_map_of_mem (List.mem_range.2 (by omega : L < len))) hn))))
        refine ⟨l ++ [y], by simp [l1], fun x hx => ?_, fun i hi => ?_⟩
        · rcases List.mem_append.1 hx with hx | hx
          · exact l2 x hx
          · rw [List.mem_singleton.1 hx]; exact hy
        · by_cases e : i < l.length
          · rw [List.getElem_append_left e]; exact l3 i e
          · have e2 : i = L := by simp at hi; omega
            subst e2
            rw [List.getElem_append_right (by omega)]
            simp only [l1, Nat.sub_self, List.getElem_cons_zero]
            rw [hk] at h1
            exact h1
    obtain ⟨l, l1, l2, l3⟩ := main len (Nat.le_refl _)
    refine ⟨some a, len, cap, l, hc, ⟨by simp [l1], hl, hm, fun h0 => ?_⟩, by omega, l2⟩
    obtain ⟨g, o, sp⟩ := a
    have c0 := l3 0 (by omega)
    have b0 := World.cells?_block c0 k0
    obtain ⟨_, z0, z1⟩ := World.cells?_some c0
    obtain rfl : sp = none := by
      cases sp with
      | none => rfl
      | some q =>
        have := z1 0 k0
        rw [List.getElem?_eq_getElem (by omega), Nat.zero_mul, show ((⟨g, o, some q⟩ : Addr).add 0) = ⟨g, o, some q⟩ from rfl, show ((⟨g, o, some q⟩ : Addr).add 0) = ⟨g, o, some q⟩ from rfl] at this
        unfold World.cell? at this
        split at this <;> simp_all
    have b1 : g < W.heap.size := by
      rw [addr_add] at b0
      exact b0
    refine ⟨g, o, rfl, b1, fun i hi j u hu => ?_⟩
    have hi' : i < l.length := by simpa using hi
    obtain ⟨_, y0, y1⟩ := World.cells?_some (l3 i hi')
    rw [List.getElem_map] at hu
    have hj : j < k := by
      have := (List.getElem?_eq_some_iff.1 hu).1
      omega
    have := y1 j hj
    rw [addr_add, addr_add, hu] at this
    exact this
theorem sized_each {P : Program} {ts : List TypeId} {ds : List (DataW H)} (h : (DataW.weightsEach P ts ds).all (· ≤ reachBytes) = true) {j : Nat} {t : TypeId} {d : DataW H} (ht : ts[j]? = some t) (hd : ds[j]? = some d) : ∀ n ∈ d.weights P t, n ≤ reachBytes := fun n hn => by
  have := List.all_eq_true.1 h n (DataW.weights_mem_each ht hd n hn)
  simpa using this
theorem dec_linkR {f : Nat} {cs : List Value} {y : DataW H × List MemPlace} (h : DataW.trod enc Tryz.prog W 0 spare held f 50 cs = some y) (hw : ∀ n ∈ y.1.weights Tryz.prog 50, n ≤ reachBytes) : ∃ x : Lk, cs = x.vals ∧ x.in64 ∧ x.name.size ≤ 140737488355328 := by
  obtain ⟨p, e, h1⟩ := dec_link h
  obtain ⟨xs, n, _, ex, hlen, hl, hel⟩ := DataW.trod_struct Tryz.underlying50 h
  obtain ⟨y0, y1, rfl⟩ := list2 hl
  have e0 := hel 1 _ rfl
  subst e
  simp [Lk.vals, cells_s] at e0
  obtain ⟨s, e1, e2, _⟩ := DataW.trod_string Tryz.underlying9 e0
  refine ⟨p, rfl, h1, ?_⟩
  have es : p.name = s := by simpa using e1
  rw [es]
  refine reach_str (hw _ ?_)
  rw [ex]
  show _ ∈ DataW.weights Tryz.prog 50 (.agg [y0.1, y1.1])
  unfold DataW.weights
  rw [Tryz.underlying50]
  simp [DataW.weightsEach, e2, DataW.weights]
theorem dec_zoneR {f : Nat} {cs : List Value} {y : DataW H × List MemPlace} (h : DataW.trod enc Tryz.prog W 0 spare held f 41 cs = some y) (hw : ∀ n ∈ y.1.weights Tryz.prog 41, n ≤ reachBytes) : ∃ p : Ze, cs = p.vals ∧ (eraRows W p ∧ p.1.in64) ∧ p.1.name.size ≤ 140737488355328 := by
  obtain ⟨p, e, h1, h2⟩ := dec_zone h
  obtain ⟨xs, n, _, ex, hlen, hl, hel⟩ := DataW.trod_struct Tryz.underlying41 h
  obtain ⟨y0, y1, rfl⟩ := list2 hl
  have e0 := hel 0 _ rfl
  subst e
  simp [Ze.vals, cells_s] at e0
  obtain ⟨s, e1, e2, _⟩ := DataW.trod_string Tryz.underlying9 e0
  refine ⟨p, rfl, ⟨h1, h2⟩, ?_⟩
  have es : p.1.name = s := by simpa using e1
  rw [es]
  refine reach_str (hw _ ?_)
  rw [ex]
  show _ ∈ DataW.weights Tryz.prog 41 (.agg [y0.1, y1.1])
  unfold DataW.weights
  rw [Tryz.underlying41]
  simp [DataW.weightsEach, e2, DataW.weights]
theorem open_sourceR {base : Nat} {r : Reach} {v : Value} {d : DataW H} {p : List MemPlace} (hval : Value.okWide Tryz.prog W r base 26 v) (h : DataW.Trod enc Tryz.prog W 0 spare held 26 v d p) (hw : ∀ n ∈ d.weights Tryz.prog 26, n ≤ reachBytes) :
    ∃ (S : Sr) (hr hz hl : Hd) (ze : List Ze), v = .agg #[hr.val, hz.val, hl.val] ∧ SrcV W S hr hz hl ze ∧ S.in64 ∧ ∀ t ∈ allN S, t.size ≤ 140737488355328 := by
  obtain ⟨cs, rfl, hsz⟩ := okWide_struct Tryz.underlying26 hval
  obtain ⟨fuel, hf⟩ := h
  obtain ⟨xs, n, _, ex, hlen, hl, hel⟩ := DataW.trod_struct Tryz.underlying26 hf
  rw [show Tryz.prog.cellsOf 26 = 3 from by kernel_rfl] at hsz
  obtain ⟨c0, c1, c2, hcs⟩ := list3 (l := cs.toList) (by simpa using hsz)
  obtain rfl : cs = #[c0, c1, c2] := by rw [← hcs]
  obtain ⟨y0, y1, y2, rfl⟩ := list3 hl
  have ed : d = .agg [y0.1, y1.1, y2.1] := congrArg Prod.fst ex
  have hw2 : ∀ n ∈ (y1.1.weights Tryz.prog 23), n ≤ reachBytes := fun n hn => hw n (by
    rw [ed]; unfold DataW.weights; rw [Tryz.underlying26]; simp [DataW.weightsEach, hn])
  have hw3 : ∀ n ∈ (y2.1.weights Tryz.prog 24), n ≤ reachBytes := fun n hn => hw n (by
    rw [ed]; unfold DataW.weights; rw [Tryz.underlying26]; simp [DataW.weightsEach, hn])
  have e0 := hel 0 _ rfl
  have e1 := hel 1 _ rfl
  have e2 := hel 2 _ rfl
  simp [Value.cells, show Tryz.prog.cellsOf 22 = 1 from by kernel_rfl, show Tryz.prog.cellsOf 23 = 1 from by kernel_rfl, show Tryz.prog.cellsOf 24 = 1 from by kernel_rfl] at e0 e1 e2
  obtain ⟨A0, n0, k0, l0, a0, r0, _, g0⟩ := open_rows (k := 11) Rl.vals Rl.in64 Tryz.underlying22 (by kernel_rfl) (by decide) (fun _ _ _ h => dec_rule h) e0
  obtain ⟨A1, n1, k1, l1, a1, r1, _, g1⟩ := open_rowsR (k := 2) Ze.vals (fun p => (eraRows W p ∧ p.1.in64) ∧ p.1.name.size ≤ 140737488355328) Tryz.underlying23 (by kernel_rfl) (by decide) (fun _ _ _ h k => dec_zoneR h k) e1 hw2
  obtain ⟨A2, n2, k2, l2, a2, r2, _, g2⟩ := open_rowsR (k := 2) Lk.vals (fun x => x.in64 ∧ x.name.size ≤ 140737488355328) Tryz.underlying24 (by kernel_rfl) (by decide) (fun _ _ _ h k => dec_linkR h k) e2 hw3
  simp only [List.cons.injEq, and_true] at a0 a1 a2
  subst a0
  subst a1
  subst a2
  refine ⟨⟨l0, l1.map (·.1), l2⟩, ⟨A0, n0, k0⟩, ⟨A1, n1, k1⟩, ⟨A2, n2, k2⟩, l1, rfl, ⟨r0, r1, r2, fun p hp => (g1 p hp).1.1, rfl⟩, ⟨g0, fun z hz => ?_, fun x hx => (g2 x hx).1⟩, fun t ht => ?_⟩
  · obtain ⟨p, hp, rfl⟩ := List.mem_map.1 hz
    exact (g1 p hp).1.2
  · unfold allN at ht
    rw [List.mem_append, List.mem_map, List.mem_map] at ht
    rcases ht with ⟨z, hz, rfl⟩ | ⟨x, hx, rfl⟩
    · obtain ⟨p, hp, rfl⟩ := List.mem_map.1 hz
      exact (g1 p hp).2
    · exact (g2 x hx).2
end
end Go.Proofs.YtpbgddoicjjhnaaGreatDoor
