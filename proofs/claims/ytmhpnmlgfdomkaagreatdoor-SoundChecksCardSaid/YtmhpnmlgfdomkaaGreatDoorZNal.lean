/- Layer 13's laws: what every right program answers. -/
import Derived.Test.YtmhpnmlgfdomkaaGreatDoorZGne
import Derived.Test.YtmhpnmlgfdomkaaGreatDoorZGng
set_option maxRecDepth 100000
set_option maxHeartbeats 64000000
namespace Go.Proofs.YtmhpnmlgfdomkaaGreatDoor
open Go.RowKit Go.Maps Go.WideShapes
def alE : Er := ⟨3600, 0, 0, ⟨#[]⟩, ⟨#[88]⟩, false, 0, Sp.zero⟩
def alZ : Zn := ⟨⟨#[65]⟩, [alE]⟩
def alS : Sr := ⟨[], [alZ], [⟨⟨#[65]⟩, ⟨#[66]⟩⟩]⟩
def bdS : Sr := ⟨[], [], [⟨⟨#[65]⟩, ⟨#[66]⟩⟩, ⟨⟨#[66]⟩, ⟨#[65]⟩⟩]⟩
theorem al_res : resR alS ⟨#[66]⟩ = some 0 := by kernel_rfl
theorem bd_res : resR bdS ⟨#[66]⟩ = none := by kernel_rfl
theorem al_names : namesN alS = [⟨#[65]⟩, ⟨#[66]⟩] := by kernel_rfl
theorem al_eok : alE.ok := ⟨by decide, by decide, by kernel_rfl, by decide, fun _ => rfl, fun _ => rfl, (fun h => by cases h), (fun h => by cases h), fun _ => ⟨rfl, rfl⟩⟩
theorem al_ok : alS.ok := ⟨by decide, by decide, by decide, fun x hx => absurd hx (by simp [alS]), fun z hz => by
  have hz : z ∈ [alZ] := hz
  rw [List.mem_singleton] at hz
  subst hz
  exact ⟨by kernel_rfl, by decide, fun x hx => by
    have hx : x ∈ [alE] := hx
    rw [List.mem_singleton] at hx
    subst hx
    exact al_eok, rfl⟩, fun x hx => by
  have hx : x ∈ [(⟨⟨#[65]⟩, ⟨#[66]⟩⟩ : Lk)] := hx
  rw [List.mem_singleton] at hx
  subst hx
  exact ⟨by kernel_rfl, by kernel_rfl⟩⟩
theorem bd_ok : bdS.ok := ⟨by decide, by decide, by decide, fun x hx => absurd hx (by simp [bdS]), fun z hz => absurd hz (by simp [bdS]), fun x hx => by
  have hx : x ∈ [(⟨⟨#[65]⟩, ⟨#[66]⟩⟩ : Lk), ⟨⟨#[66]⟩, ⟨#[65]⟩⟩] := hx
  simp only [List.mem_cons, List.not_mem_nil, or_false] at hx
  rcases hx with rfl | rfl <;> exact ⟨by kernel_rfl, by kernel_rfl⟩⟩
theorem spz_in : Sp.zero.in64 := ⟨⟨by decide, by decide⟩, ⟨by decide, by decide⟩, ⟨by decide, by decide⟩, ⟨by decide, by decide⟩, ⟨by decide, by decide⟩, ⟨by decide, by decide⟩⟩
theorem al_ein : alE.in64 := ⟨⟨by decide, by decide⟩, ⟨by decide, by decide⟩, ⟨by decide, by decide⟩, by decide, by decide, ⟨by decide, by decide⟩, spz_in⟩
theorem al_in : alS.in64 := ⟨fun x hx => absurd hx (by simp [alS]), fun z hz => by
  have hz : z ∈ [alZ] := hz
  rw [List.mem_singleton] at hz
  subst hz
  refine ⟨by decide, by decide, fun x hx => ?_⟩
  have hx : x ∈ [alE] := hx
  rw [List.mem_singleton] at hx
  subst hx
  exact al_ein, fun x hx => by
  have hx : x ∈ [(⟨⟨#[65]⟩, ⟨#[66]⟩⟩ : Lk)] := hx
  rw [List.mem_singleton] at hx
  subst hx
  exact ⟨by decide, by decide⟩⟩
theorem bd_in : bdS.in64 := ⟨fun x hx => absurd hx (by simp [bdS]), fun z hz => absurd hz (by simp [bdS]), fun x hx => by
  have hx : x ∈ [(⟨⟨#[65]⟩, ⟨#[66]⟩⟩ : Lk), ⟨⟨#[66]⟩, ⟨#[65]⟩⟩] := hx
  simp only [List.mem_cons, List.not_mem_nil, or_false] at hx
  rcases hx with rfl | rfl <;> exact ⟨by decide, by decide⟩⟩
theorem neAB : ¬ (⟨#[65]⟩ : ByteArray) = ⟨#[66]⟩ := by decide
theorem al_era : eraErr alS.rules (prevE alZ.eras 0) alE = 0 := by
  unfold eraErr prevE
  rw [if_neg (fun c => absurd c.1 (by decide)), if_neg]
  · rfl
  · rintro (⟨c, _⟩ | c)
    · exact absurd c (by decide)
    · exact absurd c (by decide)
theorem al_zone : ∀ i, i < alS.zones.length → zoneF alS i = none := by
  intro i h
  have h : i < 1 := h
  obtain rfl : i = 0 := by omega
  rw [zoneF_none (z := alZ) rfl]
  refine ⟨fun k y hk => absurd hk (by omega), fun k x hx => ?_⟩
  cases k with
  | zero =>
    obtain rfl : alE = x := Option.some.inj hx
    exact al_era
  | succ k => cases hx
theorem al_l1 : ∀ i, i < alS.links.length → linkF1 alS i = none := by
  intro i h
  have h : i < 1 := h
  obtain rfl : i = 0 := by omega
  refine linkF1_no (x := ⟨⟨#[65]⟩, ⟨#[66]⟩⟩) rfl ?_
  rintro (⟨z, hz, e⟩ | ⟨k, y, hk, _⟩)
  · have hz : z ∈ [alZ] := hz
    rw [List.mem_singleton] at hz
    subst hz
    exact neAB e
  · omega
theorem al_l2 : ∀ i, i < alS.links.length → linkF2 alS i = none := by
  intro i h
  have h : i < 1 := h
  obtain rfl : i = 0 := by omega
  rw [linkF2_is (x := ⟨⟨#[65]⟩, ⟨#[66]⟩⟩) rfl]
  rw [if_pos]
  exact nmA_some.2 (List.mem_append_left _ (List.mem_singleton.2 rfl))
theorem linkF3_is {S : Sr} {i : Nat} {x : Lk} (h : S.links[i]? = some x) : linkF3 S i = if resR S x.name = none then some ⟨16, 3, i, 0⟩ else none := by
  unfold linkF3; rw [h]
theorem al_l3 : ∀ i, i < alS.links.length → linkF3 alS i = none := by
  intro i h
  have h : i < 1 := h
  obtain rfl : i = 0 := by omega
  rw [linkF3_is (x := ⟨⟨#[65]⟩, ⟨#[66]⟩⟩) rfl, if_neg]
  intro c
  have c : resR alS ⟨#[66]⟩ = none := c
  rw [al_res] at c
  cases c
theorem al_check : checkR alS = Fw.zero :=
  check_zero2.2 ⟨okSr_yes al_ok, checkO_none.2 ⟨fun i h => absurd h (by simp [alS]), fun i h => absurd h (by simp [alS]), al_zone, al_l1, al_l2, al_l3⟩⟩
theorem bd_check : checkR bdS = ⟨16, 3, 0, 0⟩ := by
  unfold checkR
  rw [okSr_yes bd_ok, if_pos rfl]
  have e1 : ∀ i, i < 2 → linkF1 bdS i = none := fun i h => by
    rcases (show i = 0 ∨ i = 1 by omega) with rfl | rfl
    · refine linkF1_no (x := ⟨⟨#[65]⟩, ⟨#[66]⟩⟩) rfl ?_
      rintro (⟨z, hz, e⟩ | ⟨k, y, hk, _⟩)
      · exact absurd hz (by simp [bdS])
      · omega
    · refine linkF1_no (x := ⟨⟨#[66]⟩, ⟨#[65]⟩⟩) rfl ?_
      rintro (⟨z, hz, e⟩ | ⟨k, y, hk, hy, e⟩)
      · exact absurd hz (by simp [bdS])
      · obtain rfl : k = 0 := by omega
        obtain rfl := Option.some.inj hy
        exact neAB e.symm
  have e2 : ∀ i, i < 2 → linkF2 bdS i = none := fun i h => by
    rcases (show i = 0 ∨ i = 1 by omega) with rfl | rfl
    · rw [linkF2_is (x := ⟨⟨#[65]⟩, ⟨#[66]⟩⟩) rfl, if_pos]
      exact nmA_some.2 (List.mem_append_right _ (List.mem_cons_of_mem _ (List.mem_singleton.2 rfl)))
    · rw [linkF2_is (x := ⟨⟨#[66]⟩, ⟨#[65]⟩⟩) rfl, if_pos]
      exact nmA_some.2 (List.mem_append_right _ (List.mem_cons_self ..))
  have e3 : fsR 2 (linkF3 bdS) = some ⟨16, 3, 0, 0⟩ := fsR_hit (i := 0) (by omega) (by
    rw [linkF3_is (x := ⟨⟨#[65]⟩, ⟨#[66]⟩⟩) rfl, if_pos bd_res]; rfl) (fun k h => absurd h (by omega))
  have : checkO bdS = some ⟨16, 3, 0, 0⟩ := by
    unfold checkO
    rw [show fsR bdS.rules.length (ruleF bdS.rules) = none from rfl, show fsR bdS.rules.length (setF bdS.rules) = none from rfl, show fsR bdS.zones.length (zoneF bdS) = none from rfl,
      show fsR bdS.links.length (linkF1 bdS) = none from fsR_none.2 e1, show fsR bdS.links.length (linkF2 bdS) = none from fsR_none.2 e2, show fsR bdS.links.length (linkF3 bdS) = some ⟨16, 3, 0, 0⟩ from e3]
    rfl
  rw [this]; rfl
theorem al_size : ∀ t ∈ allN alS, t.size ≤ 281474976710656 := fun t ht => by
  have ht : t ∈ [(⟨#[65]⟩ : ByteArray), ⟨#[66]⟩] := ht
  simp only [List.mem_cons, List.not_mem_nil, or_false] at ht
  rcases ht with rfl | rfl <;> decide
theorem aliveE (w : World) (T : ErasM w) : Calls Tryz.prog 5 #[] w (RetV w (.bool true)) := by
  have VA := Lib.hid (fun W (hb : Below w.heap.size w W) (h0 : Blk W w.heap.size [.int .i64 3600, .int .i64 0, .int .i64 0, .string ⟨#[]⟩, .string ⟨#[88]⟩, .bool false, .int .i64 0, .int .i64 0, .int .i64 0, .int .i64 0, .int .i64 0, .int .i64 0, .int .i64 0]) (h1 : Blk W (w.heap.size + 1) [.string ⟨#[65]⟩, .slice (some ⟨w.heap.size, 0, none⟩) 1 1]) (h2 : Blk W (w.heap.size + 2) [.string ⟨#[65]⟩, .string ⟨#[66]⟩]) => (show SrcV W alS ⟨none, 0, 0⟩ ⟨some ⟨w.heap.size + 1, 0, none⟩, 1, 1⟩ ⟨some ⟨w.heap.size + 2, 0, none⟩, 1, 1⟩ [(alZ, ⟨some ⟨w.heap.size, 0, none⟩, 1, 1⟩)] from
    ⟨Rs.nil 11 W, Rs.ofBlk (n := 1) (l := [Ze.vals (alZ, ⟨some ⟨w.heap.size, 0, none⟩, 1, 1⟩)]) h1 (by intro x hx; rw [List.mem_singleton.1 hx]; rfl) rfl (by unfold maxLen; omega),
     Rs.ofBlk (n := 1) (l := [Lk.vals ⟨⟨#[65]⟩, ⟨#[66]⟩⟩]) h2 (by intro x hx; rw [List.mem_singleton.1 hx]; rfl) rfl (by unfold maxLen; omega), fun p hp => by
      rw [List.mem_singleton.1 hp]
      exact Rs.ofBlk (n := 1) (l := [Er.vals alE]) h0 (by intro x hx; rw [List.mem_singleton.1 hx]; rfl) rfl (by unfold maxLen; omega), rfl⟩))
  have VB := Lib.hid (fun W g (h2 : Blk W g [.string ⟨#[65]⟩, .string ⟨#[66]⟩, .string ⟨#[66]⟩, .string ⟨#[65]⟩]) => (show SrcV W bdS ⟨none, 0, 0⟩ ⟨none, 0, 0⟩ ⟨some ⟨g, 0, none⟩, 2, 2⟩ [] from
    ⟨Rs.nil 11 W, Rs.nil 2 W, Rs.ofBlk (n := 2) (l := [Lk.vals ⟨⟨#[65]⟩, ⟨#[66]⟩⟩, Lk.vals ⟨⟨#[66]⟩, ⟨#[65]⟩⟩]) h2 (by intro x hx; simp only [List.mem_cons, List.not_mem_nil, or_false] at hx; rcases hx with rfl | rfl <;> rfl) rfl (by unfold maxLen; omega), fun p hp => absurd hp (by simp), rfl⟩))
  have RC := Lib.hid (fun W hb h0 h1 h2 => (show Calls Tryz.prog 8 #[.agg #[.slice none 0 0, .slice (some ⟨w.heap.size + 1, 0, none⟩) 1 1, .slice (some ⟨w.heap.size + 2, 0, none⟩) 1 1], .string ⟨#[66]⟩] W (fun e w' => e = .returned (.tuple #[.int .i64 0, .bool true]) ∧ Below W.heap.size W w') from by
    have t := resolveE alS _ _ _ _ ⟨#[66]⟩ (by decide) W (VA.out W hb h0 h1 h2) al_in (by decide)
    rw [al_res] at t
    exact t))
  have NC := Lib.hid (fun W hb h0 h1 h2 => (show Calls Tryz.prog 9 #[.agg #[.slice none 0 0, .slice (some ⟨w.heap.size + 1, 0, none⟩) 1 1, .slice (some ⟨w.heap.size + 2, 0, none⟩) 1 1]] W (RetSs W [⟨#[65]⟩, ⟨#[66]⟩]) from by
    have t := namesE alS _ _ _ _ W (VA.out W hb h0 h1 h2) al_in (by decide) al_size
    rw [al_names] at t
    exact t))
  have CA := Lib.hid (fun W hb h0 h1 h2 => (show Calls Tryz.prog 6 #[.agg #[.slice none 0 0, .slice (some ⟨w.heap.size + 1, 0, none⟩) 1 1, .slice (some ⟨w.heap.size + 2, 0, none⟩) 1 1]] W (RetV W (.agg #[.int .i64 0, .int .i64 0, .int .i64 0, .int .i64 0])) from by
    have t := checkE alS _ _ _ _ W (VA.out W hb h0 h1 h2) al_in (T.mono hb)
    rw [al_check] at t
    exact t))
  have CB := Lib.hid (fun W g (hb : Below w.heap.size w W) h2 => (show Calls Tryz.prog 6 #[.agg #[.slice none 0 0, .slice none 0 0, .slice (some ⟨g, 0, none⟩) 2 2]] W (RetV W (.agg #[.int .i64 16, .int .i64 3, .int .i64 0, .int .i64 0])) from by
    have t := checkE bdS _ _ _ _ W (VB.out W g h2) bd_in (T.mono hb)
    rw [bd_check] at t
    exact t))
  clear VA VB T
  go_enter Tryz.func5, Tryz.ntmps5
  go_upto_region 2 with (fail)
  have KB := ((((BK.nil w).lit [.int .i64 3600, .int .i64 0, .int .i64 0, .string ⟨#[]⟩, .string ⟨#[88]⟩, .bool false, .int .i64 0, .int .i64 0, .int .i64 0, .int .i64 0, .int .i64 0, .int .i64 0, .int .i64 0] 41).lit [.string ⟨#[65]⟩, .slice (some ⟨w.heap.size, 0, none⟩) 1 1] 39).lit [.string ⟨#[65]⟩, .string ⟨#[66]⟩] 43).lit [.slice none 0 0, .slice (some ⟨w.heap.size + 1, 0, none⟩) 1 1, .slice (some ⟨w.heap.size + 2, 0, none⟩) 1 1] 26
  rw [show ([.int .i64 3600, .int .i64 0, .int .i64 0, .string ⟨#[]⟩, .string ⟨#[88]⟩, .bool false, .int .i64 0, .int .i64 0, .int .i64 0, .int .i64 0, .int .i64 0, .int .i64 0, .int .i64 0] : List Value).toArray = #[.int .i64 3600, .int .i64 0, .int .i64 0, .string ⟨#[]⟩, .string ⟨#[88]⟩, .bool false, .int .i64 0, .int .i64 0, .int .i64 0, .int .i64 0, .int .i64 0, .int .i64 0, .int .i64 0] from rfl, show ([.string ⟨#[65]⟩, .slice (some ⟨w.heap.size, 0, none⟩) 1 1] : List Value).toArray = #[.string ⟨#[65]⟩, .slice (some ⟨w.heap.size, 0, none⟩) 1 1] from rfl, show ([.string ⟨#[65]⟩, .string ⟨#[66]⟩] : List Value).toArray = #[.string ⟨#[65]⟩, .string ⟨#[66]⟩] from rfl, show ([.slice none 0 0, .slice (some ⟨w.heap.size + 1, 0, none⟩) 1 1, .slice (some ⟨w.heap.size + 2, 0, none⟩) 1 1] : List Value).toArray = #[.slice none 0 0, .slice (some ⟨w.heap.size + 1, 0, none⟩) 1 1, .slice (some ⟨w.heap.size + 2, 0, none⟩) 1 1] from rfl] at KB
  simp only [World.size_alloc] at *
  generalize (((w.alloc (.cells #[.int .i64 3600, .int .i64 0, .int .i64 0, .string ⟨#[]⟩, .string ⟨#[88]⟩, .bool false, .int .i64 0, .int .i64 0, .int .i64 0, .int .i64 0, .int .i64 0, .int .i64 0, .int .i64 0] 41)).alloc (.cells #[.string ⟨#[65]⟩, .slice (some ⟨w.heap.size, 0, none⟩) 1 1] 39)).alloc (.cells #[.string ⟨#[65]⟩, .string ⟨#[66]⟩] 43)).alloc (.cells #[.slice none 0 0, .slice (some ⟨w.heap.size + 1, 0, none⟩) 1 1, .slice (some ⟨w.heap.size + 2, 0, none⟩) 1 1] 26) = W at *
  obtain ⟨_, x0, x1, x2, _⟩ := KB.head.three
  go_upto_region 3 with (go_at_call 8; refine (RC.out _ KB.hb KB.tail.tail.tail.head KB.tail.tail.head KB.tail.head).mono ?_; clear RC; rintro e W2 ⟨rfl, hk⟩; replace KB := KB.below hk; clear hk x0 x1 x2)
  obtain ⟨_, x0, x1, x2, _⟩ := KB.head.three
  go_upto_region 4 with (go_at_call 9; refine (NC.out _ KB.hb KB.tail.tail.tail.head KB.tail.tail.head KB.tail.head).mono ?_; clear NC; rintro e W3 ⟨X, m9, c9, rfl, hS, hk⟩; replace KB := KB.below hk; clear hk x0 x1 x2)
  obtain rfl : m9 = 2 := hS.len.symm
  obtain ⟨gX, oX, ex, gl, cX⟩ := hS.cells (by omega)
  subst ex
  have cap := hS.cap
  have cmx := hS.max
  have c1 : W3.cell? ⟨gX, oX + 1, none⟩ = some (.string ⟨#[66]⟩) := cX 1 (by decide)
  clear cX hS
  unfold maxLen at cmx
  go_upto_region 5 with (fail)
  have KC := (KB.lit [.string ⟨#[65]⟩, .string ⟨#[66]⟩, .string ⟨#[66]⟩, .string ⟨#[65]⟩] 43).lit [.slice none 0 0, .slice none 0 0, .slice (some ⟨W3.heap.size, 0, none⟩) 2 2] 26
  rw [show ([.string ⟨#[65]⟩, .string ⟨#[66]⟩, .string ⟨#[66]⟩, .string ⟨#[65]⟩] : List Value).toArray = #[.string ⟨#[65]⟩, .string ⟨#[66]⟩, .string ⟨#[66]⟩, .string ⟨#[65]⟩] from rfl, show ([.slice none 0 0, .slice none 0 0, .slice (some ⟨W3.heap.size, 0, none⟩) 2 2] : List Value).toArray = #[.slice none 0 0, .slice none 0 0, .slice (some ⟨W3.heap.size, 0, none⟩) 2 2] from rfl] at KC
  simp only [World.size_alloc] at KC
  have c2 : ((W3.alloc (.cells #[.string ⟨#[65]⟩, .string ⟨#[66]⟩, .string ⟨#[66]⟩, .string ⟨#[65]⟩] 43)).alloc (.cells #[.slice none 0 0, .slice none 0 0, .slice (some ⟨W3.heap.size, 0, none⟩) 2 2] 26)).cell? ⟨gX, oX + 1, none⟩ = some (.string ⟨#[66]⟩) :=
    (((Below.refl W3.heap.size W3).alloc (Nat.le_refl _) _).alloc (by simp) _ |>.cell (p := ⟨gX, oX + 1, none⟩) gl).trans c1
  have gl2 : gX < W3.heap.size := gl
  generalize (W3.alloc (.cells #[.string ⟨#[65]⟩, .string ⟨#[66]⟩, .string ⟨#[66]⟩, .string ⟨#[65]⟩] 43)).alloc (.cells #[.slice none 0 0, .slice none 0 0, .slice (some ⟨W3.heap.size, 0, none⟩) 2 2] 26) = U at *
  have glU : gX < U.heap.size := Nat.lt_of_lt_of_le gl (Nat.le_of_lt KC.tail.head.lt)
  generalize W3.heap.size = lb at *
  clear KB c1 gl gl2
  have KB := KC
  clear KC
  obtain ⟨_, x0, x1, x2, _⟩ := KB.tail.tail.head.three
  obtain ⟨_, y0, y1, y2, _⟩ := KB.head.three
  go_wp2_with (first
    | (go_at_call 6; refine (CA.out _ KB.hb KB.tail.tail.tail.tail.tail.head KB.tail.tail.tail.tail.head KB.tail.tail.tail.head).mono ?_; clear CA; rintro e U2 ⟨rfl, hk⟩; (have c3 := (hk.cell (p := ⟨gX, oX + 1, none⟩) glU).trans c2); replace KB := KB.below hk; clear hk x0 x1 x2 y0 y1 y2 c2; (obtain ⟨_, y0, y1, y2, _⟩ := KB.head.three))
    | (go_at_call 6; refine (CB.out _ lb KB.hb KB.tail.head).mono ?_; clear CB; rintro e U3 ⟨rfl, hk⟩; replace KB := KB.below hk; clear hk y0 y1 y2))
  go_ret
  exact ⟨rfl, KB.hb⟩
end Go.Proofs.YtmhpnmlgfdomkaaGreatDoor
