import Derived.Test.YtpbgddoicjjhnaaGreatDoorZGne
import Derived.Test.YtpbgddoicjjhnaaGreatDoorZGng
import Derived.Test.YtpbgddoicjjhnaaGreatDoorZNea
set_option maxRecDepth 100000
set_option maxHeartbeats 64000000
namespace Go.Proofs.YtpbgddoicjjhnaaGreatDoor
open Go.RowKit Go.Maps Go.WideShapes
def alE : Er := ⟨3600, 0, 0, ⟨#[]⟩, ⟨#[88]⟩, false, 0, Sp.zero⟩
def alZ : Zn := ⟨⟨#[65]⟩, [alE]⟩
def alS : Sr := ⟨[], [alZ], [⟨⟨#[65]⟩, ⟨#[66]⟩⟩]⟩
def bdS : Sr := ⟨[], [], [⟨⟨#[65]⟩, ⟨#[66]⟩⟩, ⟨⟨#[66]⟩, ⟨#[65]⟩⟩]⟩
theorem al_res : resR alS ⟨#[66]⟩ = some 0 := by kernel_rfl
theorem bd_res : resR bdS ⟨#[66]⟩ = none := by kernel_rfl
theorem al_names : namesN alS = [⟨#[65]⟩, ⟨#[66]⟩] := by kernel_rfl
theorem al_eok : alE.ok := ⟨by decide, by decide, by kernel_rfl, by decide, fun _ => rfl, fun _ => rfl, (fun h => by cases h), (fun h => by cases h), fun _ => ⟨rfl, rfl⟩⟩
theorem al_ok : alS.ok := ⟨by decide, by decide, by decide, fun x hx => absurd hx (by simp [alS]), fun z hz => by
  have hz : z ∈ [alZ] := hz
  rw [List.mem_singleton] at hz
  subst hz
  exact ⟨by kernel_rfl, by decide, fun x hx => by
    have hx : x ∈ [alE] := hx
    rw [List.mem_singleton] at hx
    subst hx
    exact al_eok, rfl⟩, fun x hx => by
  have hx : x ∈ [(⟨⟨#[65]⟩, ⟨#[66]⟩⟩ : Lk)] := hx
  rw [List.mem_singleton] at hx
  subst hx
  exact ⟨by kernel_rfl, by kernel_rfl⟩⟩
theorem bd_ok : bdS.ok := ⟨by decide, by decide, by decide, fun x hx => absurd hx (by simp [bdS]), fun z hz => absurd hz (by simp [bdS]), fun x hx => by
  have hx : x ∈ [(⟨⟨#[65]⟩, ⟨#[66]⟩⟩ : Lk), ⟨⟨#[66]⟩, ⟨#[65]⟩⟩] := hx
  simp only [List.mem_cons, List.not_mem_nil, or_false] at hx
  rcases hx with rfl | rfl <;> exact ⟨by kernel_rfl, by kernel_rfl⟩⟩
theorem spz_in : Sp.zero.in64 := ⟨⟨by decide, by decide⟩, ⟨by decide, by decide⟩, ⟨by decide, by decide⟩, ⟨by decide, by decide⟩, ⟨by decide, by decide⟩, ⟨by decide, by decide⟩⟩
theorem al_ein : alE.in64 := ⟨⟨by decide, by decide⟩, ⟨by decide, by decide⟩, ⟨by decide, by decide⟩, by decide, by decide, ⟨by decide, by decide⟩, spz_in⟩
theorem al_in : alS.in64 := ⟨fun x hx => absurd hx (by simp [alS]), fun z hz => by
  have hz : z ∈ [alZ] := hz
  rw [List.mem_singleton] at hz
  subst hz
  refine ⟨by decide, by decide, fun x hx => ?_⟩
  have hx : x ∈ [alE] := hx
  rw [List.mem_singleton] at hx
  subst hx
  exact al_ein, fun x hx => by
  have hx : x ∈ [(⟨⟨#[65]⟩, ⟨#[66]⟩⟩ : Lk)] := hx
  rw [List.mem_singleton] at hx
  subst hx
  exact ⟨by decide, by decide⟩⟩
theorem bd_in : bdS.in64 := ⟨fun x hx => absurd hx (by simp [bdS]), fun z hz => absurd hz (by simp [bdS]), fun x hx => by
  have hx : x ∈ [(⟨⟨#[65]⟩, ⟨#[66]⟩⟩ : Lk), ⟨⟨#[66]⟩, ⟨#[65]⟩⟩] := hx
  simp only [List.mem_cons, List.not_mem_nil, or_false] at hx
  rcases hx with rfl | rfl <;> exact ⟨by decide, by decide⟩⟩
theorem neAB : ¬ (⟨#[65]⟩ : ByteArray) = ⟨#[66]⟩ := by decide
theorem al_era : eraErr alS.rules (prevE alZ.eras 0) alE = 0 := by
  unfold eraErr prevE
  rw [if_neg (fun c => absurd c.1 (by decide)), if_neg]
  · rfl
  · rintro (⟨c, _⟩ | c)
    · exact absurd c (by decide)
    · exact absurd c (by decide)
theorem al_zone : ∀ i, i < alS.zones.length → zoneF alS i = none := by
  intro i h
  have h : i < 1 := h
  obtain rfl : i = 0 := by omega
  rw [zoneF_none (z := alZ) rfl]
  refine ⟨fun k y hk => absurd hk (by omega), fun k x hx => ?_⟩
  cases k with
  | zero =>
    obtain rfl : alE = x := Option.some.inj hx
    exact al_era
  | succ k => cases hx
theorem al_l1 : ∀ i, i < alS.links.length → linkF1 alS i = none := by
  intro i h
  have h : i < 1 := h
  obtain rfl : i = 0 := by omega
  refine linkF1_no (x := ⟨⟨#[65]⟩, ⟨#[66]⟩⟩) rfl ?_
  rintro (⟨z, hz, e⟩ | ⟨k, y, hk, _⟩)
  · have hz : z ∈ [alZ] := hz
    rw [List.mem_singleton] at hz
    subst hz
    exact neAB e
  · omega
theorem al_l2 : ∀ i, i < alS.links.length → linkF2 alS i = none := by
  intro i h
  have h : i < 1 := h
  obtain rfl : i = 0 := by omega
  rw [linkF2_is (x := ⟨⟨#[65]⟩, ⟨#[66]⟩⟩) rfl]
  rw [if_pos]
  exact nmA_some.2 (List.mem_append_left _ (List.mem_singleton.2 rfl))
theorem linkF3_is {S : Sr} {i : Nat} {x : Lk} (h : S.links[i]? = some x) : linkF3 S i = if resR S x.name = none then some ⟨16, 3, i, 0⟩ else none := by
  unfold linkF3; rw [h]
theorem al_l3 : ∀ i, i < alS.links.length → linkF3 alS i = none := by
  intro i h
  have h : i < 1 := h
  obtain rfl : i = 0 := by omega
  rw [linkF3_is (x := ⟨⟨#[65]⟩, ⟨#[66]⟩⟩) rfl, if_neg]
  intro c
  have c : resR alS ⟨#[66]⟩ = none := c
  rw [al_res] at c
  cases c
theorem al_check : checkR alS = Fw.zero :=
  check_zero2.2 ⟨okSr_yes al_ok, checkO_none.2 ⟨fun i h => absurd h (by simp [alS]), fun i h => absurd h (by simp [alS]), al_zone, al_l1, al_l2, al_l3⟩⟩
theorem bd_check : checkR bdS = ⟨16, 3, 0, 0⟩ := by
  unfold checkR
  rw [okSr_yes bd_ok, if_pos rfl]
  have e1 : ∀ i, i < 2 → linkF1 bdS i = none := fun i h => by
    rcases (show i = 0 ∨ i = 1 by omega) with rfl | rfl
    · refine linkF1_no (x := ⟨⟨#[65]⟩, ⟨#[66]⟩⟩) rfl ?_
      rintro (⟨z, hz, e⟩ | ⟨k, y, hk, _⟩)
      · exact absurd hz (by simp [bdS])
      · omega
    · refine linkF1_no (x := ⟨⟨#[66]⟩, ⟨#[65]⟩⟩) rfl ?_
      rintro (⟨z, hz, e⟩ | ⟨k, y, hk, hy, e⟩)
      · exact absurd hz (by simp [bdS])
      · obtain rfl : k = 0 := by omega
        obtain rfl := Option.some.inj hy
        exact neAB e.symm
  have e2 : ∀ i, i < 2 → linkF2 bdS i = none := fun i h => by
    rcases (show i = 0 ∨ i = 1 by omega) with rfl | rfl
    · rw [linkF2_is (x := ⟨⟨#[65]⟩, ⟨#[66]⟩⟩) rfl, if_pos]
      exact nmA_some.2 (List.mem_append_right _ (List.mem_cons_of_mem _ (List.mem_singleton.2 rfl)))
    · rw [linkF2_is (x := ⟨⟨#[66]⟩, ⟨#[65]⟩⟩) rfl, if_pos]
      exact nmA_some.2 (List.mem_append_right _ (List.mem_cons_self ..))
  have e3 : fsR 2 (linkF3 bdS) = some ⟨16, 3, 0, 0⟩ := fsR_hit (i := 0) (by omega) (by
    rw [linkF3_is (x := ⟨⟨#[65]⟩, ⟨#[66]⟩⟩) rfl, if_pos bd_res]; rfl) (fun k h => absurd h (by omega))
  have : checkO bdS = some ⟨16, 3, 0, 0⟩ := by
    unfold checkO
    rw [show fsR bdS.rules.length (ruleF bdS.rules) = none from rfl, show fsR bdS.rules.length (setF bdS.rules) = none from rfl, show fsR bdS.zones.length (zoneF bdS) = none from rfl,
      show fsR bdS.links.length (linkF1 bdS) = none from fsR_none.2 e1, show fsR bdS.links.length (linkF2 bdS) = none from fsR_none.2 e2, show fsR bdS.links.length (linkF3 bdS) = some ⟨16, 3, 0, 0⟩ from e3]
    rfl
  rw [this]; rfl
theorem al_size : ∀ t ∈ allN alS, t.size ≤ 281474976710656 := fun t ht => by
  have ht : t ∈ [(⟨#[65]⟩ : ByteArray), ⟨#[66]⟩] := ht
  simp only [List.mem_cons, List.not_mem_nil, or_false] at ht
  rcases ht with rfl | rfl <;> decide
theorem aliveE (w : World) (T : ErasM w) : Calls Tryz.prog 8 #[] w (RetV w (.bool true)) := by
  have VA := Lib.hid (fun W (hb : Below w.heap.size w W) (h0 : Blk W w.heap.size [.int .i64 3600, .int .i64 0, .int .i64 0, .string ⟨#[]⟩, .string ⟨#[88]⟩, .bool false, .int .i64 0, .int .i64 0, .int .i64 0, .int .i64 0, .int .i64 0, .int .i64 0, .int .i64 0]) (h1 : Blk W (w.heap.size + 1) [.string ⟨#[65]⟩, .slice (some ⟨w.heap.size, 0, none⟩) 1 1]) (h2 : Blk W (w.heap.size + 2) [.string ⟨#[65]⟩, .string ⟨#[66]⟩]) => (show SrcV W alS ⟨none, 0, 0⟩ ⟨some ⟨w.heap.size + 1, 0, none⟩, 1, 1⟩ ⟨some ⟨w.heap.size + 2, 0, none⟩, 1, 1⟩ [(alZ, ⟨some ⟨w.heap.size, 0, none⟩, 1, 1⟩)] from
    ⟨Rs.nil 11 W, Rs.ofBlk (n := 1) (l := [Ze.vals (alZ, ⟨some ⟨w.heap.size, 0, none⟩, 1, 1⟩)]) h1 (by intro x hx; rw [List.mem_singleton.1 hx]; rfl) rfl (by unfold maxLen; omega),
     Rs.ofBlk (n := 1) (l := [Lk.vals ⟨⟨#[65]⟩, ⟨#[66]⟩⟩]) h2 (by intro x hx; rw [List.mem_singleton.1 hx]; rfl) rfl (by unfold maxLen; omega), fun p hp => by
      rw [List.mem_singleton.1 hp]
      exact Rs.ofBlk (n := 1) (l := [Er.vals alE]) h0 (by intro x hx; rw [List.mem_singleton.1 hx]; rfl) rfl (by unfold maxLen; omega), rfl⟩))
  have VB := Lib.hid (fun W g (h2 : Blk W g [.string ⟨#[65]⟩, .string ⟨#[66]⟩, .string ⟨#[66]⟩, .string ⟨#[65]⟩]) => (show SrcV W bdS ⟨none, 0, 0⟩ ⟨none, 0, 0⟩ ⟨some ⟨g, 0, none⟩, 2, 2⟩ [] from
    ⟨Rs.nil 11 W, Rs.nil 2 W, Rs.ofBlk (n := 2) (l := [Lk.vals ⟨⟨#[65]⟩, ⟨#[66]⟩⟩, Lk.vals ⟨⟨#[66]⟩, ⟨#[65]⟩⟩]) h2 (by intro x hx; simp only [List.mem_cons, List.not_mem_nil, or_false] at hx; rcases hx with rfl | rfl <;> rfl) rfl (by unfold maxLen; omega), fun p hp => absurd hp (by simp), rfl⟩))
  have RC := Lib.hid (fun W hb h0 h1 h2 => (show Calls Tryz.prog 11 #[.agg #[.slice none 0 0, .slice (some ⟨w.heap.size + 1, 0, none⟩) 1 1, .slice (some ⟨w.heap.size + 2, 0, none⟩) 1 1], .string ⟨#[66]⟩] W (fun e w' => e = .returned (.tuple #[.int .i64 0, .bool true]) ∧ Below W.heap.size W w') from by
    have t := resolveE alS _ _ _ _ ⟨#[66]⟩ (by decide) W (VA.out W hb h0 h1 h2) al_in (by decide)
    rw [al_res] at t
    exact t))
  have NC := Lib.hid (fun W hb h0 h1 h2 => (show Calls Tryz.prog 14 #[.agg #[.slice none 0 0, .slice (some ⟨w.heap.size + 1, 0, none⟩) 1 1, .slice (some ⟨w.heap.size + 2, 0, none⟩) 1 1]] W (RetSs W [⟨#[65]⟩, ⟨#[66]⟩]) from by
    have t := namesE alS _ _ _ _ W (VA.out W hb h0 h1 h2) al_in (by decide) al_size
    rw [al_names] at t
    exact t))
  have CA := Lib.hid (fun W hb h0 h1 h2 => (show Calls Tryz.prog 9 #[.agg #[.slice none 0 0, .slice (some ⟨w.heap.size + 1, 0, none⟩) 1 1, .slice (some ⟨w.heap.size + 2, 0, none⟩) 1 1]] W (RetV W (.agg #[.int .i64 0, .int .i64 0, .int .i64 0, .int .i64 0])) from by
    have t := checkE alS _ _ _ _ W (VA.out W hb h0 h1 h2) al_in (T.mono hb)
    rw [al_check] at t
    exact t))
  have CB := Lib.hid (fun W g (hb : Below w.heap.size w W) h2 => (show Calls Tryz.prog 9 #[.agg #[.slice none 0 0, .slice none 0 0, .slice (some ⟨g, 0, none⟩) 2 2]] W (RetV W (.agg #[.int .i64 16, .int .i64 3, .int .i64 0, .int .i64 0])) from by
    have t := checkE bdS _ _ _ _ W (VB.out W g h2) bd_in (T.mono hb)
    rw [bd_check] at t
    exact t))
  clear VA VB T
  go_enter Tryz.func8, Tryz.ntmps8
  go_upto_region 2 with (fail)
  have KB := ((((BK.nil w).lit [.int .i64 3600, .int .i64 0, .int .i64 0, .string ⟨#[]⟩, .string ⟨#[88]⟩, .bool false, .int .i64 0, .int .i64 0, .int .i64 0, .int .i64 0, .int .i64 0, .int .i64 0, .int .i64 0] 45).lit [.string ⟨#[65]⟩, .slice (some ⟨w.heap.size, 0, none⟩) 1 1] 41).lit [.string ⟨#[65]⟩, .string ⟨#[66]⟩] 50).lit [.slice none 0 0, .slice (some ⟨w.heap.size + 1, 0, none⟩) 1 1, .slice (some ⟨w.heap.size + 2, 0, none⟩) 1 1] 26
  rw [show ([.int .i64 3600, .int .i64 0, .int .i64 0, .string ⟨#[]⟩, .string ⟨#[88]⟩, .bool false, .int .i64 0, .int .i64 0, .int .i64 0, .int .i64 0, .int .i64 0, .int .i64 0, .int .i64 0] : List Value).toArray = #[.int .i64 3600, .int .i64 0, .int .i64 0, .string ⟨#[]⟩, .string ⟨#[88]⟩, .bool false, .int .i64 0, .int .i64 0, .int .i64 0, .int .i64 0, .int .i64 0, .int .i64 0, .int .i64 0] from rfl, show ([.string ⟨#[65]⟩, .slice (some ⟨w.heap.size, 0, none⟩) 1 1] : List Value).toArray = #[.string ⟨#[65]⟩, .slice (some ⟨w.heap.size, 0, none⟩) 1 1] from rfl, show ([.string ⟨#[65]⟩, .string ⟨#[66]⟩] : List Value).toArray = #[.string ⟨#[65]⟩, .string ⟨#[66]⟩] from rfl, show ([.slice none 0 0, .slice (some ⟨w.heap.size + 1, 0, none⟩) 1 1, .slice (some ⟨w.heap.size + 2, 0, none⟩) 1 1] : List Value).toArray = #[.slice none 0 0, .slice (some ⟨w.heap.size + 1, 0, none⟩) 1 1, .slice (some ⟨w.heap.size + 2, 0, none⟩) 1 1] from rfl] at KB
  simp only [World.size_alloc] at *
  generalize (((w.alloc (.cells #[.int .i64 3600, .int .i64 0, .int .i64 0, .string ⟨#[]⟩, .string ⟨#[88]⟩, .bool false, .int .i64 0, .int .i64 0, .int .i64 0, .int .i64 0, .int .i64 0, .int .i64 0, .int .i64 0] 45)).alloc (.cells #[.string ⟨#[65]⟩, .slice (some ⟨w.heap.size, 0, none⟩) 1 1] 41)).alloc (.cells #[.string ⟨#[65]⟩, .string ⟨#[66]⟩] 50)).alloc (.cells #[.slice none 0 0, .slice (some ⟨w.heap.size + 1, 0, none⟩) 1 1, .slice (some ⟨w.heap.size + 2, 0, none⟩) 1 1] 26) = W at *
  obtain ⟨_, x0, x1, x2, _⟩ := KB.head.three
  go_upto_region 3 with (go_at_call 11; refine (RC.out _ KB.hb KB.tail.tail.tail.head KB.tail.tail.head KB.tail.head).mono ?_; clear RC; rintro e W2 ⟨rfl, hk⟩; replace KB := KB.below hk; clear hk x0 x1 x2)
  obtain ⟨_, x0, x1, x2, _⟩ := KB.head.three
  go_upto_region 4 with (go_at_call 14; refine (NC.out _ KB.hb KB.tail.tail.tail.head KB.tail.tail.head KB.tail.head).mono ?_; clear NC; rintro e W3 ⟨X, m9, c9, rfl, hS, hk⟩; replace KB := KB.below hk; clear hk x0 x1 x2)
  obtain rfl : m9 = 2 := hS.len.symm
  obtain ⟨gX, oX, ex, gl, cX⟩ := hS.cells (by omega)
  subst ex
  have cap := hS.cap
  have cmx := hS.max
  have c1 : W3.cell? ⟨gX, oX + 1, none⟩ = some (.string ⟨#[66]⟩) := cX 1 (by decide)
  clear cX hS
  unfold maxLen at cmx
  go_upto_region 5 with (fail)
  have KC := (KB.lit [.string ⟨#[65]⟩, .string ⟨#[66]⟩, .string ⟨#[66]⟩, .string ⟨#[65]⟩] 50).lit [.slice none 0 0, .slice none 0 0, .slice (some ⟨W3.heap.size, 0, none⟩) 2 2] 26
  rw [show ([.string ⟨#[65]⟩, .string ⟨#[66]⟩, .string ⟨#[66]⟩, .string ⟨#[65]⟩] : List Value).toArray = #[.string ⟨#[65]⟩, .string ⟨#[66]⟩, .string ⟨#[66]⟩, .string ⟨#[65]⟩] from rfl, show ([.slice none 0 0, .slice none 0 0, .slice (some ⟨W3.heap.size, 0, none⟩) 2 2] : List Value).toArray = #[.slice none 0 0, .slice none 0 0, .slice (some ⟨W3.heap.size, 0, none⟩) 2 2] from rfl] at KC
  simp only [World.size_alloc] at KC
  have c2 : ((W3.alloc (.cells #[.string ⟨#[65]⟩, .string ⟨#[66]⟩, .string ⟨#[66]⟩, .string ⟨#[65]⟩] 50)).alloc (.cells #[.slice none 0 0, .slice none 0 0, .slice (some ⟨W3.heap.size, 0, none⟩) 2 2] 26)).cell? ⟨gX, oX + 1, none⟩ = some (.string ⟨#[66]⟩) :=
    (((Below.refl W3.heap.size W3).alloc (Nat.le_refl _) _).alloc (by simp) _ |>.cell (p := ⟨gX, oX + 1, none⟩) gl).trans c1
  have gl2 : gX < W3.heap.size := gl
  generalize (W3.alloc (.cells #[.string ⟨#[65]⟩, .string ⟨#[66]⟩, .string ⟨#[66]⟩, .string ⟨#[65]⟩] 50)).alloc (.cells #[.slice none 0 0, .slice none 0 0, .slice (some ⟨W3.heap.size, 0, none⟩) 2 2] 26) = U at *
  have glU : gX < U.heap.size := Nat.lt_of_lt_of_le gl (Nat.le_of_lt KC.tail.head.lt)
  generalize W3.heap.size = lb at *
  clear KB c1 gl gl2
  have KB := KC
  clear KC
  obtain ⟨_, x0, x1, x2, _⟩ := KB.tail.tail.head.three
  obtain ⟨_, y0, y1, y2, _⟩ := KB.head.three
  go_wp2_with (first
    | (go_at_call 9; refine (CA.out _ KB.hb KB.tail.tail.tail.tail.tail.head KB.tail.tail.tail.tail.head KB.tail.tail.tail.head).mono ?_; clear CA; rintro e U2 ⟨rfl, hk⟩; (have c3 := (hk.cell (p := ⟨gX, oX + 1, none⟩) glU).trans c2); replace KB := KB.below hk; clear hk x0 x1 x2 y0 y1 y2 c2; (obtain ⟨_, y0, y1, y2, _⟩ := KB.head.three))
    | (go_at_call 9; refine (CB.out _ lb KB.hb KB.tail.head).mono ?_; clear CB; rintro e U3 ⟨rfl, hk⟩; replace KB := KB.below hk; clear hk y0 y1 y2))
  go_ret
  exact ⟨rfl, KB.hb⟩
theorem any_step {l : List ByteArray} {i : Nat} {y nm : ByteArray} (h : l[i]? = some y) : (l.take (i + 1)).any (fun t => decide (t = nm)) = ((l.take i).any (fun t => decide (t = nm)) || decide (y = nm)) := by
  rw [List.take_add_one, h, List.any_append]
  simp
theorem any_mem {l : List ByteArray} {nm : ByteArray} : l.any (fun t => decide (t = nm)) = true ↔ nm ∈ l := by
  rw [List.any_eq_true]
  exact ⟨fun ⟨t, h, e⟩ => of_decide_eq_true e ▸ h, fun h => ⟨nm, h, decide_eq_true rfl⟩⟩
theorem check_err {S : Sr} (h : checkR S ≠ Fw.zero) : (checkR S).err ≠ 0 := by
  unfold checkR at h ⊢
  cases e : okSr S with
  | false => rw [if_neg (by decide)]; decide
  | true =>
    rw [e, if_pos rfl] at h
    rw [if_pos rfl]
    cases c : checkO S with
    | none => rw [c] at h; exact absurd rfl h
    | some v =>
      show v.err ≠ 0
      rw [check_code] at c
      rcases Option.or_eq_some_iff.1 c with c | ⟨_, c⟩
      · exact fs_err (fun i v h => ruleF_err h) _ c
      rcases Option.or_eq_some_iff.1 c with c | ⟨_, c⟩
      · exact fs_err (fun i v h => setF_err h) _ c
      rcases Option.or_eq_some_iff.1 c with c | ⟨_, c⟩
      · exact fs_err (fun i v h => zoneF_err h) _ c
      rcases Option.or_eq_some_iff.1 c with c | ⟨_, c⟩
      · exact fs_err (fun i v h => linkF1_err h) _ c
      rcases Option.or_eq_some_iff.1 c with c | ⟨_, c⟩
      · exact fs_err (fun i v h => linkF2_err h) _ c
      · exact fs_err (fun i v h => ringF_err h) _ c
theorem all_short {S : Sr} (ok : S.ok) : ∀ t ∈ allN S, t.size ≤ 40 := fun t ht => by
  unfold allN at ht
  rw [List.mem_append, List.mem_map, List.mem_map] at ht
  rcases ht with ⟨z, hz, rfl⟩ | ⟨x, hx, rfl⟩
  · exact (place_bare (ok.2.2.2.2.1 z hz).1).2.1
  · exact (place_bare (ok.2.2.2.2.2 x hx).2).2.1
theorem sn_bad (A B C : Option Addr) (n k m d q e : Nat) (nm : ByteArray) (w : World) (LC : Hid (∀ W, Below w.heap.size w W → Calls Tryz.prog 7 #[.agg #[.slice A n k, .slice B m d, .slice C q e]] W (RetLi W n m q))) (AC : Hid (∀ W, Below w.heap.size w W → Calls Tryz.prog 8 #[] W (RetV W (.bool true)))) (er kk av ev : Int) (h0 : er ≠ 0) (CC : Hid (∀ W, Below w.heap.size w W → Calls Tryz.prog 9 #[.agg #[.slice A n k, .slice B m d, .slice C q e]] W (RetV W (.agg #[.int .i64 er, .int .i64 kk, .int .i64 av, .int .i64 ev])))) : Calls Tryz.prog 5 #[.agg #[.slice A n k, .slice B m d, .slice C q e], .string nm] w (RetV w (.bool true)) := by
  go_enter Tryz.func5, Tryz.ntmps5
  go_upto_region 1 with (fail)
  have KB := (BK.nil w).lit [.slice A n k, .slice B m d, .slice C q e] 26
  rw [show ([.slice A n k, .slice B m d, .slice C q e] : List Value).toArray = #[.slice A n k, .slice B m d, .slice C q e] from rfl] at KB
  generalize w.alloc (.cells #[.slice A n k, .slice B m d, .slice C q e] 26) = W at *
  obtain ⟨_, x0, x1, x2, _⟩ := KB.head.three
  go_wp2_with (first | (go_at_call 7; refine (LC.out _ KB.hb).mono ?_; clear LC; rintro e9 W1 ⟨r9, rfl, HL, hk⟩; replace KB := KB.below hk; clear hk x0 x1 x2; obtain ⟨_, x0, x1, x2, _⟩ := KB.head.three; cases r9) | (go_at_call 9; refine (CC.out _ KB.hb).mono ?_; clear CC; rintro e9 W2 ⟨rfl, hk⟩; replace KB := KB.below hk; clear hk x0 x1 x2; obtain ⟨_, x0, x1, x2, _⟩ := KB.head.three) | (go_at_call 8; refine (AC.out _ KB.hb).mono ?_; rintro e9 W8 ⟨rfl, hk⟩; replace KB := KB.below hk; clear hk AC x0 x1 x2; obtain ⟨_, x0, x1, x2, _⟩ := KB.head.three))
  · go_ret
    exact ⟨rfl, KB.hb⟩
  · go_wp2_with (first | (go_at_call 9; refine (CC.out _ KB.hb).mono ?_; clear CC; rintro e9 W2 ⟨rfl, hk⟩; replace KB := KB.below hk; clear hk x0 x1 x2; obtain ⟨_, x0, x1, x2, _⟩ := KB.head.three) | (go_at_call 8; refine (AC.out _ KB.hb).mono ?_; rintro e9 W8 ⟨rfl, hk⟩; replace KB := KB.below hk; clear hk AC x0 x1 x2; obtain ⟨_, x0, x1, x2, _⟩ := KB.head.three))
    go_ret
    exact ⟨rfl, KB.hb⟩
theorem sn_ok (A B C : Option Addr) (n k m d q e : Nat) (nm : ByteArray) (w : World) (LC : Hid (∀ W, Below w.heap.size w W → Calls Tryz.prog 7 #[.agg #[.slice A n k, .slice B m d, .slice C q e]] W (RetLi W n m q))) (AC : Hid (∀ W, Below w.heap.size w W → Calls Tryz.prog 8 #[] W (RetV W (.bool true)))) (S : Sr) (CC : Hid (∀ W, Below w.heap.size w W → Calls Tryz.prog 9 #[.agg #[.slice A n k, .slice B m d, .slice C q e]] W (RetV W (.agg #[.int .i64 0, .int .i64 0, .int .i64 0, .int .i64 0])))) (NC : Hid (∀ W, Below w.heap.size w W → Calls Tryz.prog 14 #[.agg #[.slice A n k, .slice B m d, .slice C q e]] W (RetSs W (namesN S))))
    (RY : Hid (∀ y ∈ namesN S, ∃ z : Nat, z < m ∧ ∀ W, Below w.heap.size w W → Calls Tryz.prog 11 #[.agg #[.slice A n k, .slice B m d, .slice C q e], .string y] W (fun e9 w' => e9 = .returned (.tuple #[.int .i64 z, .bool true]) ∧ Below W.heap.size W w')))
    (rv : Int) (RN : Hid (∀ W, Below w.heap.size w W → Calls Tryz.prog 11 #[.agg #[.slice A n k, .slice B m d, .slice C q e], .string nm] W (fun e9 w' => e9 = .returned (.tuple #[.int .i64 rv, .bool ((namesN S).any (fun t => decide (t = nm)))]) ∧ Below W.heap.size W w')))
    (LL : (namesN S).length = m + q) (_mm : m ≤ 9223372036854775807) (qm : q ≤ 9223372036854775807) : Calls Tryz.prog 5 #[.agg #[.slice A n k, .slice B m d, .slice C q e], .string nm] w (RetV w (.bool true)) := by
  go_enter Tryz.func5, Tryz.ntmps5
  go_upto_region 1 with (fail)
  have KB := (BK.nil w).lit [.slice A n k, .slice B m d, .slice C q e] 26
  rw [show ([.slice A n k, .slice B m d, .slice C q e] : List Value).toArray = #[.slice A n k, .slice B m d, .slice C q e] from rfl] at KB
  generalize w.alloc (.cells #[.slice A n k, .slice B m d, .slice C q e] 26) = W at *
  obtain ⟨_, x0, x1, x2, _⟩ := KB.head.three
  go_upto_region 3 with (first | (go_at_call 7; refine (LC.out _ KB.hb).mono ?_; clear LC; rintro e9 W1 ⟨r9, rfl, HL, hk⟩; replace KB := KB.below hk; clear hk x0 x1 x2; obtain ⟨_, x0, x1, x2, _⟩ := KB.head.three; cases r9) | (go_at_call 9; refine (CC.out _ KB.hb).mono ?_; clear CC; rintro e9 W2 ⟨rfl, hk⟩; replace KB := KB.below hk; clear hk x0 x1 x2; obtain ⟨_, x0, x1, x2, _⟩ := KB.head.three) | (go_at_call 8; refine (AC.out _ KB.hb).mono ?_; rintro e9 W8 ⟨rfl, hk⟩; replace KB := KB.below hk; clear hk AC x0 x1 x2; obtain ⟨_, x0, x1, x2, _⟩ := KB.head.three))
  · go_ret
    exact ⟨rfl, KB.hb⟩
  go_wp2_with (first | (go_at_call 9; refine (CC.out _ KB.hb).mono ?_; clear CC; rintro e9 W2 ⟨rfl, hk⟩; replace KB := KB.below hk; clear hk x0 x1 x2; obtain ⟨_, x0, x1, x2, _⟩ := KB.head.three) | (go_at_call 14; refine (NC.out _ KB.hb).mono ?_; clear NC; rintro e9 W3 ⟨X, m9, c9, rfl, hS, hk⟩; replace KB := KB.below hk; clear hk x0 x1 x2; obtain ⟨_, x0, x1, x2, _⟩ := KB.head.three))
  have L9 : (namesN S).length = m9 := hS.len
  obtain rfl : m9 = m + q := by omega
  have cap := hS.cap
  have cmx := hS.max
  unfold maxLen at cmx
  have wr9 : IntKind.i64.wrap ((m : Int) + (q : Int)) = (m : Int) + q := IntWalk.i64_in _ (by omega)
  go_loopw [6, 7] (fun v6 v7 wr => ∃ (i : Nat) (b : Bool), i ≤ m + q ∧ v7 = .int .i64 i ∧ v6 = .bool b ∧ Hid (b = ((namesN S).take i).any (fun t => decide (t = nm))) ∧ Ss wr X (m + q) c9 (namesN S) ∧ BK w [(w.heap.size, [.slice A n k, .slice B m d, .slice C q e])] wr) (fun _ v _ => m + q - (intOf v).toNat)
  case atStart => exact ⟨0, false, by omega, rfl, rfl, Lib.hid rfl, hS, KB⟩
  case round =>
    clear KB hS
    obtain ⟨i, b, hi, rfl, rfl, HB, hS, KB⟩ := hrel
    clear x0 x1 x2
    obtain ⟨_, x0, x1, x2, _⟩ := KB.head.three
    by_cases h4 : i < m + q
    · obtain ⟨y, hyy⟩ : ∃ y, (namesN S)[i]? = some y := ⟨_, List.getElem?_eq_getElem (by omega)⟩
      obtain ⟨g, o, ea0, hg, ca⟩ := hS.cells (by omega)
      have c0 : wr.cell? ⟨g, o + i, none⟩ = some (.string y) := by
        obtain ⟨hl, e⟩ := List.getElem?_eq_some_iff.1 hyy
        rw [← e]; exact ca i hl
      obtain ⟨z, hz, ZC⟩ := RY.out y (List.mem_of_getElem? hyy)
      have ZC := Lib.hid ZC
      have US := any_step (nm := nm) hyy
      rw [← HB.out] at US
      have US := Lib.hid US
      have q6 : (y.toList == nm.toList) = decide (y = nm) := toList_beqT _ _
      have z1 : decide ((z : Int) < 0) = false := decide_eq_false (by omega)
      have z2 : decide ((z : Int) ≥ (m : Int)) = false := decide_eq_false (by omega)
      clear ca hyy HB
      subst ea0
      have SC := Lib.hid (fun W (h : Below wr.heap.size wr W) => (show Ss W (some ⟨g, o, none⟩) (m + q) c9 (namesN S) ∧ W.cell? ⟨g, o + i, none⟩ = some (.string y) from ⟨hS.below h, (h.cell (p := ⟨g, o + i, none⟩) hg).trans c0⟩))
      have ZA := ZC
      clear hS ZC
      go_wp2_with fail
      go_region_held3 (fun w' => w'.cell? ⟨w.heap.size, 0, none⟩ = some (.slice A n k) ∧ w'.cell? ⟨w.heap.size, 1, none⟩ = some (.slice B m d) ∧ w'.cell? ⟨w.heap.size, 2, none⟩ = some (.slice C q e) ∧ w'.cell? ⟨g, o + i, none⟩ = some (.string y)) (first | (with_reducible exact ⟨x0, x1, x2, c0⟩) | go_keep)
        (first | (go_at_call 11; (with_reducible refine (ZA.out _ (by with_reducible first | exact KB.hb | exact KB.drew.hb)).mono ?_); rintro e9 U9 ⟨rfl, hk9⟩; (have SU := SC.out U9 (by with_reducible first | exact hk9 | exact below_thru (Below.refl _ _).drew hk9)); (with_reducible first | replace KB := KB.below hk9 | replace KB := KB.drew.below hk9); clear hk9 x0 x1 x2 c0; obtain ⟨_, x0, x1, x2, _⟩ := KB.head.three; (have c0 := SU.2)))
      all_goals
        have hS := SU.1
        clear SU
        cases b with
        | true =>
          have N2 : Hid (true = ((namesN S).take (i + 1)).any (fun t => decide (t = nm))) := Lib.hid (by rw [US.out]; rfl)
          clear US q6
          go_wp2_with fail
          go_roundw
          case rel => exact ⟨i + 1, true, by omega, int_eqS (by omega), rfl, N2, hS, KB⟩
          case measure => simp only [intOf]; omega
        | false =>
          by_cases h6 : y = nm
          · have N2 : Hid (true = ((namesN S).take (i + 1)).any (fun t => decide (t = nm))) := Lib.hid (by rw [US.out, decide_eq_true h6]; rfl)
            replace q6 : (y.toList == nm.toList) = true := by rw [q6, decide_eq_true h6]
            clear US h6
            go_wp2_with fail
            go_roundw
            case rel => exact ⟨i + 1, true, by omega, int_eqS (by omega), rfl, N2, hS, KB⟩
            case measure => simp only [intOf]; omega
          · have N2 : Hid (false = ((namesN S).take (i + 1)).any (fun t => decide (t = nm))) := Lib.hid (by rw [US.out, decide_eq_false h6]; rfl)
            replace q6 : (y.toList == nm.toList) = false := by rw [q6, decide_eq_false h6]
            clear US h6
            go_wp2_with fail
            go_roundw
            case rel => exact ⟨i + 1, false, by omega, int_eqS (by omega), rfl, N2, hS, KB⟩
            case measure => simp only [intOf]; omega
    · obtain rfl : i = m + q := by omega
      have HE : b = (namesN S).any (fun t => decide (t = nm)) := by have := HB.out; rw [← LL, List.take_length] at this; exact this
      rw [← HE] at RN
      clear HB HE RY
      go_wp2_with (first | (go_at_call 11; refine (RN.out _ KB.hb).mono ?_; rintro e9 W5 ⟨rfl, hk⟩; replace KB := KB.below hk; clear hk RN x0 x1 x2; obtain ⟨_, x0, x1, x2, _⟩ := KB.head.three) | (go_at_call 8; refine (AC.out _ KB.hb).mono ?_; rintro e9 W8 ⟨rfl, hk⟩; replace KB := KB.below hk; clear hk AC x0 x1 x2; obtain ⟨_, x0, x1, x2, _⟩ := KB.head.three))
      go_ret
      exact ⟨rfl, KB.hb⟩
theorem namesL13 (S : Sr) (a b c : Hd) (ze : List Ze) (nm : ByteArray) (w : World) (hv : SrcV w S a b c ze) (hx : S.in64) (hn : nm.size ≤ maxLen) (T : ErasM w) : Calls Tryz.prog 5 #[.agg #[a.val, b.val, c.val], .string nm] w (RetV w (.bool true)) := by
  have LC := fun W (h : Below w.heap.size w W) => lightDR S a b c ze W (hv.below h)
  have AC := fun W (h : Below w.heap.size w W) => aliveE W (T.mono h)
  have CC := fun W (h : Below w.heap.size w W) => checkE S a b c ze W (hv.below h) hx (T.mono h)
  have lz : S.zones.length = b.n := by have := hv.zones.len; rw [← hv.all]; simpa using this
  have ll : S.links.length = c.n := by have := hv.links.len; simpa using this
  have m2 : b.n ≤ 9223372036854775807 := Nat.le_trans hv.zones.cap hv.zones.max
  have m3 : c.n ≤ 9223372036854775807 := Nat.le_trans hv.links.cap hv.links.max
  by_cases h : checkR S = Fw.zero
  · rw [h] at CC
    obtain ⟨h1, h2⟩ := check_zero2.1 h
    have ok := ok_of h1
    have small : S.zones.length + S.links.length ≤ 1000 := by have := ok.2.1; have := ok.2.2.1; omega
    have sh := all_short ok
    have e : (resR S nm).isSome = (namesN S).any (fun t => decide (t = nm)) := Bool.eq_iff_iff.2 ((res_named h2 nm).trans any_mem.symm)
    have RN := fun W (h : Below w.heap.size w W) => resolveE S a b c ze nm hn W (hv.below h) hx small
    unfold RetZI at RN
    rw [e] at RN
    have RY : ∀ y ∈ namesN S, ∃ z : Nat, z < b.n ∧ ∀ W, Below w.heap.size w W → Calls Tryz.prog 11 #[.agg #[a.val, b.val, c.val], .string y] W (fun e9 w' => e9 = .returned (.tuple #[.int .i64 z, .bool true]) ∧ Below W.heap.size W w') := fun y hy => by
      have is := (res_named h2 y).2 hy
      obtain ⟨z, hz⟩ := Option.isSome_iff_exists.1 is
      have ym : y ∈ allN S := by
        rcases namesN_mem.1 hy with ⟨x, hx, rfl⟩ | ⟨x, hx, rfl⟩
        · exact List.mem_append_left _ (List.mem_map_of_mem hx)
        · exact List.mem_append_right _ (List.mem_map_of_mem hx)
      refine ⟨z, by have := resR_lt hz; omega, fun W h => ?_⟩
      have t := resolveE S a b c ze y (Nat.le_trans (sh y ym) (by decide)) W (hv.below h) hx small
      rw [hz] at t
      exact t
    exact sn_ok a.a b.a c.a a.n a.c b.n b.c c.n c.c nm w (Lib.hid LC) (Lib.hid AC) S (Lib.hid CC) (Lib.hid fun W h => namesE S a b c ze W (hv.below h) hx small fun t ht => Nat.le_trans (sh t ht) (by decide)) (Lib.hid RY) _ (Lib.hid RN) (by rw [names_len h2, lz, ll]) m2 m3
  · exact sn_bad a.a b.a c.a a.n a.c b.n b.c c.n c.c nm w (Lib.hid LC) (Lib.hid AC) _ _ _ _ (check_err h) (Lib.hid CC)
end Go.Proofs.YtpbgddoicjjhnaaGreatDoor
