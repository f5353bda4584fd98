import Derived.Test.YtnkmlfbnfndfpaaGreatDoorXGj
import Derived.Test.YtnkmlfbnfndfpaaGreatDoorXFjoin
import Derived.Test.YtnkmlfbnfndfpaaGreatDoorXGi
import Derived.Test.YtnkmlfbnfndfpaaGreatDoorXGyp
import Derived.Test.YtnkmlfbnfndfpaaGreatDoorXHsrc
import Derived.Test.YtnkmlfbnfndfpaaGreatDoorXHsame
import Derived.Test.YtnkmlfbnfndfpaaGreatDoorXHspec
import Derived.Shelf.Strconv.Itoa3
import Derived.Shelf.LaysM
import Derived.Deep.AppendLies
import Derived.Deep.RegionHeld3
import Derived.Test.YtnkmlfbnfndfpaaGreatDoorXGu
set_option maxRecDepth 100000
set_option maxHeartbeats 64000000
namespace Go.Proofs.YtnkmlfbnfndfpaaGreatDoor
open Go.RowKit
theorem fld_plain {k : Nat} {t : ByteArray} (h : fld k t) : plainT t = true := plain_of h.2.1 h.1
theorem join_line {l : List ByteArray} (h : ∀ t ∈ l, fld 40 t) (n : l.length ≤ 10) : joinRes l = (spc l, 0) := by
  have p : ∀ t ∈ l, plainT t = true := fun t ht => fld_plain (h t ht)
  have e := join_spc p l.length (Nat.le_refl _)
  rw [List.take_length] at e
  have z := spc_size l 40 (fun t ht => (h t ht).2.2)
  rw [← e]
  exact joinRes_fine (fun i hi => plain_ok (p _ (List.getElem_mem hi))) (by omega) (by rw [e]; omega)
theorem small_line {l : List ByteArray} (h : ∀ t ∈ l, fld 40 t) (n : l.length ≤ 10) : smallTexts l :=
  ⟨by omega, fun i hi => by have := (h _ (List.getElem_mem hi)).2.2; omega⟩
theorem textOf_app : ∀ a b : List (List ByteArray), textOf (a ++ b) = textOf a ++ textOf b
  | [], b => (nil_append _).symm
  | l :: r, b => by
    show spc l ++ nlT ++ textOf (r ++ b) = spc l ++ nlT ++ textOf r ++ textOf b
    rw [textOf_app r b]
    simp only [ByteArray.append_assoc]
theorem textOf_snoc (a : List (List ByteArray)) (l : List ByteArray) : textOf (a ++ [l]) = textOf a ++ spc l ++ nlT := by
  rw [textOf_app]
  show textOf a ++ (spc l ++ nlT ++ ⟨#[]⟩) = _
  rw [append_nil']
  simp only [ByteArray.append_assoc]
theorem line_le {l : List ByteArray} (h : ∀ t ∈ l, fld 40 t) (n : l.length ≤ 10) : (spc l).size ≤ 410 := by
  have z := spc_size l 40 (fun t ht => (h t ht).2.2)
  omega
theorem rule_line40 {x : Rl} (k : x.ok) : (∀ t ∈ ruleTexts x, fld 40 t) ∧ (ruleTexts x).length ≤ 10 := ⟨fun t ht => fld_mono (rule_flds k t ht) (by decide), Nat.le_refl _⟩
theorem link_line40 {x : Lk} (k : x.ok) : (∀ t ∈ linkTexts x, fld 40 t) ∧ (linkTexts x).length ≤ 10 := ⟨fun t ht => by
    unfold linkTexts at ht
    simp only [List.mem_cons, List.not_mem_nil, or_false] at ht
    rcases ht with rfl | rfl | rfl
    · exact fld_mono (fld_word [76, 105, 110, 107] (by decide) (by decide) (by decide)) (by decide)
    · exact place_fld k.1
    · exact place_fld k.2, show 3 ≤ 10 by decide⟩
theorem era_line40 {x : Er} (k : x.ok) : (∀ t ∈ eraTexts x, fld 40 t) ∧ (eraTexts x).length ≤ 7 := ⟨fun t ht => fld_mono (era_flds k t ht) (by decide), by have := era_len x; omega⟩
theorem zone_line40 {x : Er} (k : x.ok) {nm : ByteArray} (hn : placeB nm = true) : (∀ t ∈ [zoneT, nm] ++ eraTexts x, fld 40 t) ∧ ([zoneT, nm] ++ eraTexts x).length ≤ 10 := ⟨fun t ht => by
    rcases List.mem_append.1 ht with h | h
    · simp only [List.mem_cons, List.not_mem_nil, or_false] at h
      rcases h with rfl | rfl
      · exact fld_mono (fld_word [90, 111, 110, 101] (by decide) (by decide) (by decide)) (by decide)
      · exact place_fld hn
    · exact (era_line40 k).1 t h, by have := era_len x; rw [List.length_append]; show 2 + _ ≤ 10; omega⟩
def fineL (n : Nat) (a : List (List ByteArray)) : Prop := a.length ≤ n ∧ ∀ l ∈ a, (∀ t ∈ l, fld 40 t) ∧ l.length ≤ 10
theorem fine_nil : fineL 0 [] := ⟨Nat.le_refl _, fun l h => by cases h⟩
theorem fine_snoc {n : Nat} {a : List (List ByteArray)} (h : fineL n a) {l : List ByteArray} (k : (∀ t ∈ l, fld 40 t) ∧ l.length ≤ 10) : fineL (n + 1) (a ++ [l]) :=
  ⟨by rw [List.length_append]; exact Nat.succ_le_succ h.1, fun x hx => by
    rcases List.mem_append.1 hx with h1 | h1
    · exact h.2 x h1
    · rw [List.mem_singleton.1 h1]; exact k⟩
theorem fine_mono {n m : Nat} {a : List (List ByteArray)} (h : fineL n a) (k : n ≤ m) : fineL m a := ⟨Nat.le_trans h.1 k, h.2⟩
theorem fine_size {n : Nat} {a : List (List ByteArray)} (h : fineL n a) : (textOf a).size ≤ 411 * n := by
  obtain ⟨h1, h2⟩ := h
  have : ∀ a : List (List ByteArray), (∀ l ∈ a, (∀ t ∈ l, fld 40 t) ∧ l.length ≤ 10) → (textOf a).size ≤ 411 * a.length := by
    intro a
    induction a with
    | nil => intro _; exact Nat.le_refl _
    | cons l r ih =>
      intro h
      have h3 := ih (fun x hx => h x (List.mem_cons_of_mem _ hx))
      have h4 := line_le (h l (by simp)).1 (h l (by simp)).2
      show (spc l ++ nlT ++ textOf r).size ≤ _
      rw [size_app, size_app, show nlT.size = 1 from rfl, List.length_cons]
      omega
  have h3 := this a h2
  have : 411 * a.length ≤ 411 * n := Nat.mul_le_mul_left _ h1
  omega
theorem Blk.elevenC {W : World} {b : Nat} {v0 v1 v2 v3 v4 v5 v6 v7 v8 v9 v10 : Value} (h : Blk W b [v0, v1, v2, v3, v4, v5, v6, v7, v8, v9, v10]) : W.cell? ⟨b, 0, none⟩ = some v0 ∧ W.cell? ⟨b, 1, none⟩ = some v1 ∧ W.cell? ⟨b, 2, none⟩ = some v2 ∧ W.cell? ⟨b, 3, none⟩ = some v3 ∧ W.cell? ⟨b, 4, none⟩ = some v4 ∧ W.cell? ⟨b, 5, none⟩ = some v5 ∧ W.cell? ⟨b, 6, none⟩ = some v6 ∧ W.cell? ⟨b, 7, none⟩ = some v7 ∧ W.cell? ⟨b, 8, none⟩ = some v8 ∧ W.cell? ⟨b, 9, none⟩ = some v9 ∧ W.cell? ⟨b, 10, none⟩ = some v10 := ⟨h.cs.1, h.cs.2.2.1, h.cs.2.2.2.2.1, h.cs.2.2.2.2.2.2.1, h.cs.2.2.2.2.2.2.2.2.1, h.cs.2.2.2.2.2.2.2.2.2.2.1, h.cs.2.2.2.2.2.2.2.2.2.2.2.2.1, h.cs.2.2.2.2.2.2.2.2.2.2.2.2.2.2.1, h.cs.2.2.2.2.2.2.2.2.2.2.2.2.2.2.2.2.1, h.cs.2.2.2.2.2.2.2.2.2.2.2.2.2.2.2.2.2.2.1, h.cs.2.2.2.2.2.2.2.2.2.2.2.2.2.2.2.2.2.2.2.2.1⟩
theorem Blk.thirteenC {W : World} {b : Nat} {v0 v1 v2 v3 v4 v5 v6 v7 v8 v9 v10 v11 v12 : Value} (h : Blk W b [v0, v1, v2, v3, v4, v5, v6, v7, v8, v9, v10, v11, v12]) : W.cell? ⟨b, 0, none⟩ = some v0 ∧ W.cell? ⟨b, 1, none⟩ = some v1 ∧ W.cell? ⟨b, 2, none⟩ = some v2 ∧ W.cell? ⟨b, 3, none⟩ = some v3 ∧ W.cell? ⟨b, 4, none⟩ = some v4 ∧ W.cell? ⟨b, 5, none⟩ = some v5 ∧ W.cell? ⟨b, 6, none⟩ = some v6 ∧ W.cell? ⟨b, 7, none⟩ = some v7 ∧ W.cell? ⟨b, 8, none⟩ = some v8 ∧ W.cell? ⟨b, 9, none⟩ = some v9 ∧ W.cell? ⟨b, 10, none⟩ = some v10 ∧ W.cell? ⟨b, 11, none⟩ = some v11 ∧ W.cell? ⟨b, 12, none⟩ = some v12 := ⟨h.cs.1, h.cs.2.2.1, h.cs.2.2.2.2.1, h.cs.2.2.2.2.2.2.1, h.cs.2.2.2.2.2.2.2.2.1, h.cs.2.2.2.2.2.2.2.2.2.2.1, h.cs.2.2.2.2.2.2.2.2.2.2.2.2.1, h.cs.2.2.2.2.2.2.2.2.2.2.2.2.2.2.1, h.cs.2.2.2.2.2.2.2.2.2.2.2.2.2.2.2.2.1, h.cs.2.2.2.2.2.2.2.2.2.2.2.2.2.2.2.2.2.2.1, h.cs.2.2.2.2.2.2.2.2.2.2.2.2.2.2.2.2.2.2.2.2.1, h.cs.2.2.2.2.2.2.2.2.2.2.2.2.2.2.2.2.2.2.2.2.2.2.1, h.cs.2.2.2.2.2.2.2.2.2.2.2.2.2.2.2.2.2.2.2.2.2.2.2.2.1⟩
theorem rr_a (nm le : ByteArray) (fr last mo ki wd da ti re save : Int) (HA : Hid (∀ W, Calls Tryz.prog 18 #[.string nm] W (SameV W (.bool false)))) (w : World) : Calls Tryz.prog 29 #[.agg #[.string nm, .int .i64 fr, .int .i64 last, .int .i64 mo, .int .i64 ki, .int .i64 wd, .int .i64 da, .int .i64 ti, .int .i64 re, .int .i64 save, .string le]] w (RetV w (.bool false)) := by
  go_enter Tryz.func29, Tryz.ntmps29
  go_upto_region 1 with (fail)
  have KB := blk_lit w 57 [.string nm, .int .i64 fr, .int .i64 last, .int .i64 mo, .int .i64 ki, .int .i64 wd, .int .i64 da, .int .i64 ti, .int .i64 re, .int .i64 save, .string le]
  have hb := below_box w (.cells #[.string nm, .int .i64 fr, .int .i64 last, .int .i64 mo, .int .i64 ki, .int .i64 wd, .int .i64 da, .int .i64 ti, .int .i64 re, .int .i64 save, .string le] 57)
  rw [show ([.string nm, .int .i64 fr, .int .i64 last, .int .i64 mo, .int .i64 ki, .int .i64 wd, .int .i64 da, .int .i64 ti, .int .i64 re, .int .i64 save, .string le] : List Value).toArray = #[.string nm, .int .i64 fr, .int .i64 last, .int .i64 mo, .int .i64 ki, .int .i64 wd, .int .i64 da, .int .i64 ti, .int .i64 re, .int .i64 save, .string le] from rfl] at KB
  generalize w.alloc (.cells #[.string nm, .int .i64 fr, .int .i64 last, .int .i64 mo, .int .i64 ki, .int .i64 wd, .int .i64 da, .int .i64 ti, .int .i64 re, .int .i64 save, .string le] 57) = W at *
  obtain ⟨x0, x1, x2, x3, x4, x5, x6, x7, x8, x9, x10⟩ := KB.elevenC
  go_wp2_with (go_at_call 18; refine (HA.out _).mono ?_; clear HA; rintro e w' ⟨rfl, rfl⟩)
  go_wp2
  go_ret
  exact ⟨by first | rfl | simp, hb⟩
theorem rr_b (nm le : ByteArray) (fr last mo ki wd da ti re save : Int) (HA : Hid (∀ W, Calls Tryz.prog 18 #[.string nm] W (SameV W (.bool true)))) (HB : Hid (∀ W, Calls Tryz.prog 60 #[.int .i64 fr] W (SameV W (.bool false)))) (w : World) : Calls Tryz.prog 29 #[.agg #[.string nm, .int .i64 fr, .int .i64 last, .int .i64 mo, .int .i64 ki, .int .i64 wd, .int .i64 da, .int .i64 ti, .int .i64 re, .int .i64 save, .string le]] w (RetV w (.bool false)) := by
  go_enter Tryz.func29, Tryz.ntmps29
  go_upto_region 1 with (fail)
  have KB := blk_lit w 57 [.string nm, .int .i64 fr, .int .i64 last, .int .i64 mo, .int .i64 ki, .int .i64 wd, .int .i64 da, .int .i64 ti, .int .i64 re, .int .i64 save, .string le]
  have hb := below_box w (.cells #[.string nm, .int .i64 fr, .int .i64 last, .int .i64 mo, .int .i64 ki, .int .i64 wd, .int .i64 da, .int .i64 ti, .int .i64 re, .int .i64 save, .string le] 57)
  rw [show ([.string nm, .int .i64 fr, .int .i64 last, .int .i64 mo, .int .i64 ki, .int .i64 wd, .int .i64 da, .int .i64 ti, .int .i64 re, .int .i64 save, .string le] : List Value).toArray = #[.string nm, .int .i64 fr, .int .i64 last, .int .i64 mo, .int .i64 ki, .int .i64 wd, .int .i64 da, .int .i64 ti, .int .i64 re, .int .i64 save, .string le] from rfl] at KB
  generalize w.alloc (.cells #[.string nm, .int .i64 fr, .int .i64 last, .int .i64 mo, .int .i64 ki, .int .i64 wd, .int .i64 da, .int .i64 ti, .int .i64 re, .int .i64 save, .string le] 57) = W at *
  obtain ⟨x0, x1, x2, x3, x4, x5, x6, x7, x8, x9, x10⟩ := KB.elevenC
  go_wp2_with (go_at_call 18; refine (HA.out _).mono ?_; clear HA; rintro e w' ⟨rfl, rfl⟩)
  go_wp2_with (go_at_call 60; refine (HB.out _).mono ?_; clear HB; rintro e w' ⟨rfl, rfl⟩)
  go_wp2
  go_ret
  exact ⟨by first | rfl | simp, hb⟩
theorem rr_c (nm le : ByteArray) (fr last mo ki wd da ti re save : Int) (HA : Hid (∀ W, Calls Tryz.prog 18 #[.string nm] W (SameV W (.bool true)))) (HB : Hid (∀ W, Calls Tryz.prog 60 #[.int .i64 fr] W (SameV W (.bool true)))) (HC : Hid (∀ W, Calls Tryz.prog 60 #[.int .i64 last] W (SameV W (.bool false)))) (hl : (last == 1000000) = false) (w : World) : Calls Tryz.prog 29 #[.agg #[.string nm, .int .i64 fr, .int .i64 last, .int .i64 mo, .int .i64 ki, .int .i64 wd, .int .i64 da, .int .i64 ti, .int .i64 re, .int .i64 save, .string le]] w (RetV w (.bool false)) := by
  go_enter Tryz.func29, Tryz.ntmps29
  go_upto_region 1 with (fail)
  have KB := blk_lit w 57 [.string nm, .int .i64 fr, .int .i64 last, .int .i64 mo, .int .i64 ki, .int .i64 wd, .int .i64 da, .int .i64 ti, .int .i64 re, .int .i64 save, .string le]
  have hb := below_box w (.cells #[.string nm, .int .i64 fr, .int .i64 last, .int .i64 mo, .int .i64 ki, .int .i64 wd, .int .i64 da, .int .i64 ti, .int .i64 re, .int .i64 save, .string le] 57)
  rw [show ([.string nm, .int .i64 fr, .int .i64 last, .int .i64 mo, .int .i64 ki, .int .i64 wd, .int .i64 da, .int .i64 ti, .int .i64 re, .int .i64 save, .string le] : List Value).toArray = #[.string nm, .int .i64 fr, .int .i64 last, .int .i64 mo, .int .i64 ki, .int .i64 wd, .int .i64 da, .int .i64 ti, .int .i64 re, .int .i64 save, .string le] from rfl] at KB
  generalize w.alloc (.cells #[.string nm, .int .i64 fr, .int .i64 last, .int .i64 mo, .int .i64 ki, .int .i64 wd, .int .i64 da, .int .i64 ti, .int .i64 re, .int .i64 save, .string le] 57) = W at *
  obtain ⟨x0, x1, x2, x3, x4, x5, x6, x7, x8, x9, x10⟩ := KB.elevenC
  go_wp2_with (go_at_call 18; refine (HA.out _).mono ?_; clear HA; rintro e w' ⟨rfl, rfl⟩)
  go_wp2_with (go_at_call 60; refine (HB.out _).mono ?_; clear HB; rintro e w' ⟨rfl, rfl⟩)
  go_wp2_with (go_at_call 60; refine (HC.out _).mono ?_; clear HC; rintro e w' ⟨rfl, rfl⟩)
  go_wp2
  go_ret
  exact ⟨by first | rfl | simp, hb⟩
theorem rr_td (nm le : ByteArray) (fr last mo ki wd da ti re save : Int) (HA : Hid (∀ W, Calls Tryz.prog 18 #[.string nm] W (SameV W (.bool true)))) (HB : Hid (∀ W, Calls Tryz.prog 60 #[.int .i64 fr] W (SameV W (.bool true)))) (HC : Hid (∀ W, Calls Tryz.prog 60 #[.int .i64 last] W (SameV W (.bool true)))) (HD : Hid (∀ W, Calls Tryz.prog 61 #[.agg #[.int .i64 mo, .int .i64 ki, .int .i64 wd, .int .i64 da, .int .i64 ti, .int .i64 re]] W (RetV W (.bool false)))) (w : World) : Calls Tryz.prog 29 #[.agg #[.string nm, .int .i64 fr, .int .i64 last, .int .i64 mo, .int .i64 ki, .int .i64 wd, .int .i64 da, .int .i64 ti, .int .i64 re, .int .i64 save, .string le]] w (RetV w (.bool false)) := by
  go_enter Tryz.func29, Tryz.ntmps29
  go_upto_region 1 with (fail)
  have KB := blk_lit w 57 [.string nm, .int .i64 fr, .int .i64 last, .int .i64 mo, .int .i64 ki, .int .i64 wd, .int .i64 da, .int .i64 ti, .int .i64 re, .int .i64 save, .string le]
  have hb := below_box w (.cells #[.string nm, .int .i64 fr, .int .i64 last, .int .i64 mo, .int .i64 ki, .int .i64 wd, .int .i64 da, .int .i64 ti, .int .i64 re, .int .i64 save, .string le] 57)
  rw [show ([.string nm, .int .i64 fr, .int .i64 last, .int .i64 mo, .int .i64 ki, .int .i64 wd, .int .i64 da, .int .i64 ti, .int .i64 re, .int .i64 save, .string le] : List Value).toArray = #[.string nm, .int .i64 fr, .int .i64 last, .int .i64 mo, .int .i64 ki, .int .i64 wd, .int .i64 da, .int .i64 ti, .int .i64 re, .int .i64 save, .string le] from rfl] at KB
  generalize w.alloc (.cells #[.string nm, .int .i64 fr, .int .i64 last, .int .i64 mo, .int .i64 ki, .int .i64 wd, .int .i64 da, .int .i64 ti, .int .i64 re, .int .i64 save, .string le] 57) = W at *
  obtain ⟨x0, x1, x2, x3, x4, x5, x6, x7, x8, x9, x10⟩ := KB.elevenC
  go_wp2_with (go_at_call 18; refine (HA.out _).mono ?_; clear HA; rintro e w' ⟨rfl, rfl⟩)
  go_wp2_with (go_at_call 60; refine (HB.out _).mono ?_; clear HB; rintro e w' ⟨rfl, rfl⟩)
  go_wp2_with (go_at_call 60; refine (HC.out _).mono ?_; clear HC; rintro e w' ⟨rfl, rfl⟩)
  go_wp2_with (go_at_call 61; refine (HD.out _).mono ?_; clear HD; rintro e w' ⟨rfl, hk⟩; replace hb := below_thru hb hk; replace KB := KB.below hk; clear hk x0 x1 x2 x3 x4 x5 x6 x7 x8 x9 x10; obtain ⟨x0, x1, x2, x3, x4, x5, x6, x7, x8, x9, x10⟩ := KB.elevenC)
  go_wp2
  go_ret
  exact ⟨by first | rfl | simp, hb⟩
theorem rr_te (nm le : ByteArray) (fr last mo ki wd da ti re save : Int) (HA : Hid (∀ W, Calls Tryz.prog 18 #[.string nm] W (SameV W (.bool true)))) (HB : Hid (∀ W, Calls Tryz.prog 60 #[.int .i64 fr] W (SameV W (.bool true)))) (HC : Hid (∀ W, Calls Tryz.prog 60 #[.int .i64 last] W (SameV W (.bool true)))) (HD : Hid (∀ W, Calls Tryz.prog 61 #[.agg #[.int .i64 mo, .int .i64 ki, .int .i64 wd, .int .i64 da, .int .i64 ti, .int .i64 re]] W (RetV W (.bool true)))) (HE : Hid (∀ W, Calls Tryz.prog 62 #[.int .i64 save] W (SameV W (.bool false)))) (w : World) : Calls Tryz.prog 29 #[.agg #[.string nm, .int .i64 fr, .int .i64 last, .int .i64 mo, .int .i64 ki, .int .i64 wd, .int .i64 da, .int .i64 ti, .int .i64 re, .int .i64 save, .string le]] w (RetV w (.bool false)) := by
  go_enter Tryz.func29, Tryz.ntmps29
  go_upto_region 1 with (fail)
  have KB := blk_lit w 57 [.string nm, .int .i64 fr, .int .i64 last, .int .i64 mo, .int .i64 ki, .int .i64 wd, .int .i64 da, .int .i64 ti, .int .i64 re, .int .i64 save, .string le]
  have hb := below_box w (.cells #[.string nm, .int .i64 fr, .int .i64 last, .int .i64 mo, .int .i64 ki, .int .i64 wd, .int .i64 da, .int .i64 ti, .int .i64 re, .int .i64 save, .string le] 57)
  rw [show ([.string nm, .int .i64 fr, .int .i64 last, .int .i64 mo, .int .i64 ki, .int .i64 wd, .int .i64 da, .int .i64 ti, .int .i64 re, .int .i64 save, .string le] : List Value).toArray = #[.string nm, .int .i64 fr, .int .i64 last, .int .i64 mo, .int .i64 ki, .int .i64 wd, .int .i64 da, .int .i64 ti, .int .i64 re, .int .i64 save, .string le] from rfl] at KB
  generalize w.alloc (.cells #[.string nm, .int .i64 fr, .int .i64 last, .int .i64 mo, .int .i64 ki, .int .i64 wd, .int .i64 da, .int .i64 ti, .int .i64 re, .int .i64 save, .string le] 57) = W at *
  obtain ⟨x0, x1, x2, x3, x4, x5, x6, x7, x8, x9, x10⟩ := KB.elevenC
  go_wp2_with (go_at_call 18; refine (HA.out _).mono ?_; clear HA; rintro e w' ⟨rfl, rfl⟩)
  go_wp2_with (go_at_call 60; refine (HB.out _).mono ?_; clear HB; rintro e w' ⟨rfl, rfl⟩)
  go_wp2_with (go_at_call 60; refine (HC.out _).mono ?_; clear HC; rintro e w' ⟨rfl, rfl⟩)
  go_wp2_with (go_at_call 61; refine (HD.out _).mono ?_; clear HD; rintro e w' ⟨rfl, hk⟩; replace hb := below_thru hb hk; replace KB := KB.below hk; clear hk x0 x1 x2 x3 x4 x5 x6 x7 x8 x9 x10; obtain ⟨x0, x1, x2, x3, x4, x5, x6, x7, x8, x9, x10⟩ := KB.elevenC)
  go_wp2_with (go_at_call 62; refine (HE.out _).mono ?_; clear HE; rintro e w' ⟨rfl, rfl⟩)
  go_wp2
  go_ret
  exact ⟨by first | rfl | simp, hb⟩
theorem rr_tf (nm le : ByteArray) (fr last mo ki wd da ti re save : Int) (HA : Hid (∀ W, Calls Tryz.prog 18 #[.string nm] W (SameV W (.bool true)))) (HB : Hid (∀ W, Calls Tryz.prog 60 #[.int .i64 fr] W (SameV W (.bool true)))) (HC : Hid (∀ W, Calls Tryz.prog 60 #[.int .i64 last] W (SameV W (.bool true)))) (HD : Hid (∀ W, Calls Tryz.prog 61 #[.agg #[.int .i64 mo, .int .i64 ki, .int .i64 wd, .int .i64 da, .int .i64 ti, .int .i64 re]] W (RetV W (.bool true)))) (HE : Hid (∀ W, Calls Tryz.prog 62 #[.int .i64 save] W (SameV W (.bool true)))) (hf : (le.toList == []) = true ∧ le.toList.isEmpty = true ∧ le.toList = []) (w : World) : Calls Tryz.prog 29 #[.agg #[.string nm, .int .i64 fr, .int .i64 last, .int .i64 mo, .int .i64 ki, .int .i64 wd, .int .i64 da, .int .i64 ti, .int .i64 re, .int .i64 save, .string le]] w (RetV w (.bool true)) := by
  obtain ⟨f1, f2, f3⟩ := hf
  go_enter Tryz.func29, Tryz.ntmps29
  go_upto_region 1 with (fail)
  have KB := blk_lit w 57 [.string nm, .int .i64 fr, .int .i64 last, .int .i64 mo, .int .i64 ki, .int .i64 wd, .int .i64 da, .int .i64 ti, .int .i64 re, .int .i64 save, .string le]
  have hb := below_box w (.cells #[.string nm, .int .i64 fr, .int .i64 last, .int .i64 mo, .int .i64 ki, .int .i64 wd, .int .i64 da, .int .i64 ti, .int .i64 re, .int .i64 save, .string le] 57)
  rw [show ([.string nm, .int .i64 fr, .int .i64 last, .int .i64 mo, .int .i64 ki, .int .i64 wd, .int .i64 da, .int .i64 ti, .int .i64 re, .int .i64 save, .string le] : List Value).toArray = #[.string nm, .int .i64 fr, .int .i64 last, .int .i64 mo, .int .i64 ki, .int .i64 wd, .int .i64 da, .int .i64 ti, .int .i64 re, .int .i64 save, .string le] from rfl] at KB
  generalize w.alloc (.cells #[.string nm, .int .i64 fr, .int .i64 last, .int .i64 mo, .int .i64 ki, .int .i64 wd, .int .i64 da, .int .i64 ti, .int .i64 re, .int .i64 save, .string le] 57) = W at *
  obtain ⟨x0, x1, x2, x3, x4, x5, x6, x7, x8, x9, x10⟩ := KB.elevenC
  go_wp2_with (go_at_call 18; refine (HA.out _).mono ?_; clear HA; rintro e w' ⟨rfl, rfl⟩)
  go_wp2_with (go_at_call 60; refine (HB.out _).mono ?_; clear HB; rintro e w' ⟨rfl, rfl⟩)
  go_wp2_with (go_at_call 60; refine (HC.out _).mono ?_; clear HC; rintro e w' ⟨rfl, rfl⟩)
  go_wp2_with (go_at_call 61; refine (HD.out _).mono ?_; clear HD; rintro e w' ⟨rfl, hk⟩; replace hb := below_thru hb hk; replace KB := KB.below hk; clear hk x0 x1 x2 x3 x4 x5 x6 x7 x8 x9 x10; obtain ⟨x0, x1, x2, x3, x4, x5, x6, x7, x8, x9, x10⟩ := KB.elevenC)
  go_wp2_with (go_at_call 62; refine (HE.out _).mono ?_; clear HE; rintro e w' ⟨rfl, rfl⟩)
  go_wp2
  go_ret
  exact ⟨by first | rfl | simp, hb⟩
theorem rr_tg (nm le : ByteArray) (fr last mo ki wd da ti re save : Int) (HA : Hid (∀ W, Calls Tryz.prog 18 #[.string nm] W (SameV W (.bool true)))) (HB : Hid (∀ W, Calls Tryz.prog 60 #[.int .i64 fr] W (SameV W (.bool true)))) (HC : Hid (∀ W, Calls Tryz.prog 60 #[.int .i64 last] W (SameV W (.bool true)))) (HD : Hid (∀ W, Calls Tryz.prog 61 #[.agg #[.int .i64 mo, .int .i64 ki, .int .i64 wd, .int .i64 da, .int .i64 ti, .int .i64 re]] W (RetV W (.bool true)))) (HE : Hid (∀ W, Calls Tryz.prog 62 #[.int .i64 save] W (SameV W (.bool true)))) (hf : (le.toList == []) = false ∧ le.toList.isEmpty = false ∧ ¬ le.toList = []) (g : Bool) (HG : Hid (∀ W, Calls Tryz.prog 63 #[.string le] W (SameV W (.bool g)))) (w : World) : Calls Tryz.prog 29 #[.agg #[.string nm, .int .i64 fr, .int .i64 last, .int .i64 mo, .int .i64 ki, .int .i64 wd, .int .i64 da, .int .i64 ti, .int .i64 re, .int .i64 save, .string le]] w (RetV w (.bool g)) := by
  obtain ⟨f1, f2, f3⟩ := hf
  go_enter Tryz.func29, Tryz.ntmps29
  go_upto_region 1 with (fail)
  have KB := blk_lit w 57 [.string nm, .int .i64 fr, .int .i64 last, .int .i64 mo, .int .i64 ki, .int .i64 wd, .int .i64 da, .int .i64 ti, .int .i64 re, .int .i64 save, .string le]
  have hb := below_box w (.cells #[.string nm, .int .i64 fr, .int .i64 last, .int .i64 mo, .int .i64 ki, .int .i64 wd, .int .i64 da, .int .i64 ti, .int .i64 re, .int .i64 save, .string le] 57)
  rw [show ([.string nm, .int .i64 fr, .int .i64 last, .int .i64 mo, .int .i64 ki, .int .i64 wd, .int .i64 da, .int .i64 ti, .int .i64 re, .int .i64 save, .string le] : List Value).toArray = #[.string nm, .int .i64 fr, .int .i64 last, .int .i64 mo, .int .i64 ki, .int .i64 wd, .int .i64 da, .int .i64 ti, .int .i64 re, .int .i64 save, .string le] from rfl] at KB
  generalize w.alloc (.cells #[.string nm, .int .i64 fr, .int .i64 last, .int .i64 mo, .int .i64 ki, .int .i64 wd, .int .i64 da, .int .i64 ti, .int .i64 re, .int .i64 save, .string le] 57) = W at *
  obtain ⟨x0, x1, x2, x3, x4, x5, x6, x7, x8, x9, x10⟩ := KB.elevenC
  go_wp2_with (go_at_call 18; refine (HA.out _).mono ?_; clear HA; rintro e w' ⟨rfl, rfl⟩)
  go_wp2_with (go_at_call 60; refine (HB.out _).mono ?_; clear HB; rintro e w' ⟨rfl, rfl⟩)
  go_wp2_with (go_at_call 60; refine (HC.out _).mono ?_; clear HC; rintro e w' ⟨rfl, rfl⟩)
  go_wp2_with (go_at_call 61; refine (HD.out _).mono ?_; clear HD; rintro e w' ⟨rfl, hk⟩; replace hb := below_thru hb hk; replace KB := KB.below hk; clear hk x0 x1 x2 x3 x4 x5 x6 x7 x8 x9 x10; obtain ⟨x0, x1, x2, x3, x4, x5, x6, x7, x8, x9, x10⟩ := KB.elevenC)
  go_wp2_with (go_at_call 62; refine (HE.out _).mono ?_; clear HE; rintro e w' ⟨rfl, rfl⟩)
  go_wp2_with (go_at_call 63; refine (HG.out _).mono ?_; clear HG; rintro e w' ⟨rfl, rfl⟩)
  go_wp2
  go_ret
  exact ⟨by first | rfl | simp, hb⟩
theorem rr_fd (nm le : ByteArray) (fr last mo ki wd da ti re save : Int) (HA : Hid (∀ W, Calls Tryz.prog 18 #[.string nm] W (SameV W (.bool true)))) (HB : Hid (∀ W, Calls Tryz.prog 60 #[.int .i64 fr] W (SameV W (.bool true)))) (HC : Hid (∀ W, Calls Tryz.prog 60 #[.int .i64 last] W (SameV W (.bool false)))) (hl : (last == 1000000) = true) (HD : Hid (∀ W, Calls Tryz.prog 61 #[.agg #[.int .i64 mo, .int .i64 ki, .int .i64 wd, .int .i64 da, .int .i64 ti, .int .i64 re]] W (RetV W (.bool false)))) (w : World) : Calls Tryz.prog 29 #[.agg #[.string nm, .int .i64 fr, .int .i64 last, .int .i64 mo, .int .i64 ki, .int .i64 wd, .int .i64 da, .int .i64 ti, .int .i64 re, .int .i64 save, .string le]] w (RetV w (.bool false)) := by
  go_enter Tryz.func29, Tryz.ntmps29
  go_upto_region 1 with (fail)
  have KB := blk_lit w 57 [.string nm, .int .i64 fr, .int .i64 last, .int .i64 mo, .int .i64 ki, .int .i64 wd, .int .i64 da, .int .i64 ti, .int .i64 re, .int .i64 save, .string le]
  have hb := below_box w (.cells #[.string nm, .int .i64 fr, .int .i64 last, .int .i64 mo, .int .i64 ki, .int .i64 wd, .int .i64 da, .int .i64 ti, .int .i64 re, .int .i64 save, .string le] 57)
  rw [show ([.string nm, .int .i64 fr, .int .i64 last, .int .i64 mo, .int .i64 ki, .int .i64 wd, .int .i64 da, .int .i64 ti, .int .i64 re, .int .i64 save, .string le] : List Value).toArray = #[.string nm, .int .i64 fr, .int .i64 last, .int .i64 mo, .int .i64 ki, .int .i64 wd, .int .i64 da, .int .i64 ti, .int .i64 re, .int .i64 save, .string le] from rfl] at KB
  generalize w.alloc (.cells #[.string nm, .int .i64 fr, .int .i64 last, .int .i64 mo, .int .i64 ki, .int .i64 wd, .int .i64 da, .int .i64 ti, .int .i64 re, .int .i64 save, .string le] 57) = W at *
  obtain ⟨x0, x1, x2, x3, x4, x5, x6, x7, x8, x9, x10⟩ := KB.elevenC
  go_wp2_with (go_at_call 18; refine (HA.out _).mono ?_; clear HA; rintro e w' ⟨rfl, rfl⟩)
  go_wp2_with (go_at_call 60; refine (HB.out _).mono ?_; clear HB; rintro e w' ⟨rfl, rfl⟩)
  go_wp2_with (go_at_call 60; refine (HC.out _).mono ?_; clear HC; rintro e w' ⟨rfl, rfl⟩)
  go_wp2_with (go_at_call 61; refine (HD.out _).mono ?_; clear HD; rintro e w' ⟨rfl, hk⟩; replace hb := below_thru hb hk; replace KB := KB.below hk; clear hk x0 x1 x2 x3 x4 x5 x6 x7 x8 x9 x10; obtain ⟨x0, x1, x2, x3, x4, x5, x6, x7, x8, x9, x10⟩ := KB.elevenC)
  go_wp2
  go_ret
  exact ⟨by first | rfl | simp, hb⟩
theorem rr_fe (nm le : ByteArray) (fr last mo ki wd da ti re save : Int) (HA : Hid (∀ W, Calls Tryz.prog 18 #[.string nm] W (SameV W (.bool true)))) (HB : Hid (∀ W, Calls Tryz.prog 60 #[.int .i64 fr] W (SameV W (.bool true)))) (HC : Hid (∀ W, Calls Tryz.prog 60 #[.int .i64 last] W (SameV W (.bool false)))) (hl : (last == 1000000) = true) (HD : Hid (∀ W, Calls Tryz.prog 61 #[.agg #[.int .i64 mo, .int .i64 ki, .int .i64 wd, .int .i64 da, .int .i64 ti, .int .i64 re]] W (RetV W (.bool true)))) (HE : Hid (∀ W, Calls Tryz.prog 62 #[.int .i64 save] W (SameV W (.bool false)))) (w : World) : Calls Tryz.prog 29 #[.agg #[.string nm, .int .i64 fr, .int .i64 last, .int .i64 mo, .int .i64 ki, .int .i64 wd, .int .i64 da, .int .i64 ti, .int .i64 re, .int .i64 save, .string le]] w (RetV w (.bool false)) := by
  go_enter Tryz.func29, Tryz.ntmps29
  go_upto_region 1 with (fail)
  have KB := blk_lit w 57 [.string nm, .int .i64 fr, .int .i64 last, .int .i64 mo, .int .i64 ki, .int .i64 wd, .int .i64 da, .int .i64 ti, .int .i64 re, .int .i64 save, .string le]
  have hb := below_box w (.cells #[.string nm, .int .i64 fr, .int .i64 last, .int .i64 mo, .int .i64 ki, .int .i64 wd, .int .i64 da, .int .i64 ti, .int .i64 re, .int .i64 save, .string le] 57)
  rw [show ([.string nm, .int .i64 fr, .int .i64 last, .int .i64 mo, .int .i64 ki, .int .i64 wd, .int .i64 da, .int .i64 ti, .int .i64 re, .int .i64 save, .string le] : List Value).toArray = #[.string nm, .int .i64 fr, .int .i64 last, .int .i64 mo, .int .i64 ki, .int .i64 wd, .int .i64 da, .int .i64 ti, .int .i64 re, .int .i64 save, .string le] from rfl] at KB
  generalize w.alloc (.cells #[.string nm, .int .i64 fr, .int .i64 last, .int .i64 mo, .int .i64 ki, .int .i64 wd, .int .i64 da, .int .i64 ti, .int .i64 re, .int .i64 save, .string le] 57) = W at *
  obtain ⟨x0, x1, x2, x3, x4, x5, x6, x7, x8, x9, x10⟩ := KB.elevenC
  go_wp2_with (go_at_call 18; refine (HA.out _).mono ?_; clear HA; rintro e w' ⟨rfl, rfl⟩)
  go_wp2_with (go_at_call 60; refine (HB.out _).mono ?_; clear HB; rintro e w' ⟨rfl, rfl⟩)
  go_wp2_with (go_at_call 60; refine (HC.out _).mono ?_; clear HC; rintro e w' ⟨rfl, rfl⟩)
  go_wp2_with (go_at_call 61; refine (HD.out _).mono ?_; clear HD; rintro e w' ⟨rfl, hk⟩; replace hb := below_thru hb hk; replace KB := KB.below hk; clear hk x0 x1 x2 x3 x4 x5 x6 x7 x8 x9 x10; obtain ⟨x0, x1, x2, x3, x4, x5, x6, x7, x8, x9, x10⟩ := KB.elevenC)
  go_wp2_with (go_at_call 62; refine (HE.out _).mono ?_; clear HE; rintro e w' ⟨rfl, rfl⟩)
  go_wp2
  go_ret
  exact ⟨by first | rfl | simp, hb⟩
theorem rr_ff (nm le : ByteArray) (fr last mo ki wd da ti re save : Int) (HA : Hid (∀ W, Calls Tryz.prog 18 #[.string nm] W (SameV W (.bool true)))) (HB : Hid (∀ W, Calls Tryz.prog 60 #[.int .i64 fr] W (SameV W (.bool true)))) (HC : Hid (∀ W, Calls Tryz.prog 60 #[.int .i64 last] W (SameV W (.bool false)))) (hl : (last == 1000000) = true) (HD : Hid (∀ W, Calls Tryz.prog 61 #[.agg #[.int .i64 mo, .int .i64 ki, .int .i64 wd, .int .i64 da, .int .i64 ti, .int .i64 re]] W (RetV W (.bool true)))) (HE : Hid (∀ W, Calls Tryz.prog 62 #[.int .i64 save] W (SameV W (.bool true)))) (hf : (le.toList == []) = true ∧ le.toList.isEmpty = true ∧ le.toList = []) (w : World) : Calls Tryz.prog 29 #[.agg #[.string nm, .int .i64 fr, .int .i64 last, .int .i64 mo, .int .i64 ki, .int .i64 wd, .int .i64 da, .int .i64 ti, .int .i64 re, .int .i64 save, .string le]] w (RetV w (.bool true)) := by
  obtain ⟨f1, f2, f3⟩ := hf
  go_enter Tryz.func29, Tryz.ntmps29
  go_upto_region 1 with (fail)
  have KB := blk_lit w 57 [.string nm, .int .i64 fr, .int .i64 last, .int .i64 mo, .int .i64 ki, .int .i64 wd, .int .i64 da, .int .i64 ti, .int .i64 re, .int .i64 save, .string le]
  have hb := below_box w (.cells #[.string nm, .int .i64 fr, .int .i64 last, .int .i64 mo, .int .i64 ki, .int .i64 wd, .int .i64 da, .int .i64 ti, .int .i64 re, .int .i64 save, .string le] 57)
  rw [show ([.string nm, .int .i64 fr, .int .i64 last, .int .i64 mo, .int .i64 ki, .int .i64 wd, .int .i64 da, .int .i64 ti, .int .i64 re, .int .i64 save, .string le] : List Value).toArray = #[.string nm, .int .i64 fr, .int .i64 last, .int .i64 mo, .int .i64 ki, .int .i64 wd, .int .i64 da, .int .i64 ti, .int .i64 re, .int .i64 save, .string le] from rfl] at KB
  generalize w.alloc (.cells #[.string nm, .int .i64 fr, .int .i64 last, .int .i64 mo, .int .i64 ki, .int .i64 wd, .int .i64 da, .int .i64 ti, .int .i64 re, .int .i64 save, .string le] 57) = W at *
  obtain ⟨x0, x1, x2, x3, x4, x5, x6, x7, x8, x9, x10⟩ := KB.elevenC
  go_wp2_with (go_at_call 18; refine (HA.out _).mono ?_; clear HA; rintro e w' ⟨rfl, rfl⟩)
  go_wp2_with (go_at_call 60; refine (HB.out _).mono ?_; clear HB; rintro e w' ⟨rfl, rfl⟩)
  go_wp2_with (go_at_call 60; refine (HC.out _).mono ?_; clear HC; rintro e w' ⟨rfl, rfl⟩)
  go_wp2_with (go_at_call 61; refine (HD.out _).mono ?_; clear HD; rintro e w' ⟨rfl, hk⟩; replace hb := below_thru hb hk; replace KB := KB.below hk; clear hk x0 x1 x2 x3 x4 x5 x6 x7 x8 x9 x10; obtain ⟨x0, x1, x2, x3, x4, x5, x6, x7, x8, x9, x10⟩ := KB.elevenC)
  go_wp2_with (go_at_call 62; refine (HE.out _).mono ?_; clear HE; rintro e w' ⟨rfl, rfl⟩)
  go_wp2
  go_ret
  exact ⟨by first | rfl | simp, hb⟩
theorem rr_fg (nm le : ByteArray) (fr last mo ki wd da ti re save : Int) (HA : Hid (∀ W, Calls Tryz.prog 18 #[.string nm] W (SameV W (.bool true)))) (HB : Hid (∀ W, Calls Tryz.prog 60 #[.int .i64 fr] W (SameV W (.bool true)))) (HC : Hid (∀ W, Calls Tryz.prog 60 #[.int .i64 last] W (SameV W (.bool false)))) (hl : (last == 1000000) = true) (HD : Hid (∀ W, Calls Tryz.prog 61 #[.agg #[.int .i64 mo, .int .i64 ki, .int .i64 wd, .int .i64 da, .int .i64 ti, .int .i64 re]] W (RetV W (.bool true)))) (HE : Hid (∀ W, Calls Tryz.prog 62 #[.int .i64 save] W (SameV W (.bool true)))) (hf : (le.toList == []) = false ∧ le.toList.isEmpty = false ∧ ¬ le.toList = []) (g : Bool) (HG : Hid (∀ W, Calls Tryz.prog 63 #[.string le] W (SameV W (.bool g)))) (w : World) : Calls Tryz.prog 29 #[.agg #[.string nm, .int .i64 fr, .int .i64 last, .int .i64 mo, .int .i64 ki, .int .i64 wd, .int .i64 da, .int .i64 ti, .int .i64 re, .int .i64 save, .string le]] w (RetV w (.bool g)) := by
  obtain ⟨f1, f2, f3⟩ := hf
  go_enter Tryz.func29, Tryz.ntmps29
  go_upto_region 1 with (fail)
  have KB := blk_lit w 57 [.string nm, .int .i64 fr, .int .i64 last, .int .i64 mo, .int .i64 ki, .int .i64 wd, .int .i64 da, .int .i64 ti, .int .i64 re, .int .i64 save, .string le]
  have hb := below_box w (.cells #[.string nm, .int .i64 fr, .int .i64 last, .int .i64 mo, .int .i64 ki, .int .i64 wd, .int .i64 da, .int .i64 ti, .int .i64 re, .int .i64 save, .string le] 57)
  rw [show ([.string nm, .int .i64 fr, .int .i64 last, .int .i64 mo, .int .i64 ki, .int .i64 wd, .int .i64 da, .int .i64 ti, .int .i64 re, .int .i64 save, .string le] : List Value).toArray = #[.string nm, .int .i64 fr, .int .i64 last, .int .i64 mo, .int .i64 ki, .int .i64 wd, .int .i64 da, .int .i64 ti, .int .i64 re, .int .i64 save, .string le] from rfl] at KB
  generalize w.alloc (.cells #[.string nm, .int .i64 fr, .int .i64 last, .int .i64 mo, .int .i64 ki, .int .i64 wd, .int .i64 da, .int .i64 ti, .int .i64 re, .int .i64 save, .string le] 57) = W at *
  obtain ⟨x0, x1, x2, x3, x4, x5, x6, x7, x8, x9, x10⟩ := KB.elevenC
  go_wp2_with (go_at_call 18; refine (HA.out _).mono ?_; clear HA; rintro e w' ⟨rfl, rfl⟩)
  go_wp2_with (go_at_call 60; refine (HB.out _).mono ?_; clear HB; rintro e w' ⟨rfl, rfl⟩)
  go_wp2_with (go_at_call 60; refine (HC.out _).mono ?_; clear HC; rintro e w' ⟨rfl, rfl⟩)
  go_wp2_with (go_at_call 61; refine (HD.out _).mono ?_; clear HD; rintro e w' ⟨rfl, hk⟩; replace hb := below_thru hb hk; replace KB := KB.below hk; clear hk x0 x1 x2 x3 x4 x5 x6 x7 x8 x9 x10; obtain ⟨x0, x1, x2, x3, x4, x5, x6, x7, x8, x9, x10⟩ := KB.elevenC)
  go_wp2_with (go_at_call 62; refine (HE.out _).mono ?_; clear HE; rintro e w' ⟨rfl, rfl⟩)
  go_wp2_with (go_at_call 63; refine (HG.out _).mono ?_; clear HG; rintro e w' ⟨rfl, rfl⟩)
  go_wp2
  go_ret
  exact ⟨by first | rfl | simp, hb⟩
theorem no_textP {s : ByteArray} (h : s = ⟨#[]⟩) : (s.toList == []) = true ∧ s.toList.isEmpty = true ∧ s.toList = [] := by
  subst h
  rw [ByteArray.toList_eq]
  exact ⟨rfl, rfl, rfl⟩
theorem some_textP {s : ByteArray} (h : ¬ s = ⟨#[]⟩) : (s.toList == []) = false ∧ s.toList.isEmpty = false ∧ ¬ s.toList = [] :=
  full_text fun c => h (ByteArray.ext (Array.eq_empty_of_size_eq_zero c))
noncomputable def rlOk (x : Rl) : Bool := @decide x.ok (Classical.propDecidable _)
theorem rl_yes {x : Rl} (h : x.ok) : rlOk x = true := @decide_eq_true _ (Classical.propDecidable _) h
theorem rl_no {x : Rl} (h : ¬ x.ok) : rlOk x = false := @decide_eq_false _ (Classical.propDecidable _) h
theorem yr_yes {n : Int} : yrB n = true ↔ 1 ≤ n ∧ n ≤ 9999 := decide_eq_true_iff
theorem sv_yes {n : Int} : svB n = true ↔ -43200 ≤ n ∧ n ≤ 43200 := decide_eq_true_iff
theorem rl_letter {s : ByteArray} : rlB s = true ↔ ¬ s = dashT ∧ lettersB s = true := by
  unfold rlB
  rw [Bool.and_eq_true, decide_eq_true_iff]
  rfl
theorem rightRuleP (x : Rl) (hx : x.in64) (w : World) : Calls Tryz.prog 29 #[x.val] w (RetV w (.bool (rlOk x))) := by
  obtain ⟨nm, fr, last, ⟨mo, ki, wd, da, ti, re⟩, save, le⟩ := x
  obtain ⟨zn, _, _, _, _, zl⟩ := hx
  have hA := fun W => setP nm zn W
  have hB := fun W => rightYearP fr W
  have hC := fun W => rightYearP last W
  have hD := fun W => rightMP ⟨mo, ki, wd, da, ti, re⟩ W
  have hE := fun W => rightSaveP save W
  have hG := fun W => rightLetterP le zl W
  cases a : setB nm with
  | false =>
    rw [a] at hA
    rw [rl_no (fun k => by have := k.2.2.2.2.1; simp only at this; rw [a] at this; cases this)]
    exact rr_a _ _ _ _ _ _ _ _ _ _ _ (Lib.hid hA) w
  | true =>
  rw [a] at hA
  cases b : yrB fr with
  | false =>
    rw [b] at hB
    rw [rl_no (fun k => by have := yr_yes.2 k.1; simp only at this; rw [b] at this; cases this)]
    exact rr_b _ _ _ _ _ _ _ _ _ _ _ (Lib.hid hA) (Lib.hid hB) w
  | true =>
  rw [b] at hB
  have kb := yr_yes.1 b
  by_cases lk : yrB last = false ∧ ¬ last = 1000000
  · rw [lk.1] at hC
    rw [rl_no (fun k => by
      rcases k.2.1.2 with h | h
      · have := yr_yes.2 ⟨k.2.1.1, h⟩; simp only at this; rw [lk.1] at this; cases this
      · exact lk.2 h)]
    exact rr_c _ _ _ _ _ _ _ _ _ _ _ (Lib.hid hA) (Lib.hid hB) (Lib.hid hC) (beq_eq_false_iff_ne.2 lk.2) w
  have kl : 1 ≤ last ∧ (last ≤ 9999 ∨ last = 1000000) := by
    cases c : yrB last with
    | true => have := yr_yes.1 c; exact ⟨this.1, .inl this.2⟩
    | false =>
      have : last = 1000000 := Classical.byContradiction fun h => lk ⟨c, h⟩
      exact ⟨by omega, .inr this⟩
  clear lk
  cases c : yrB last with
  | true =>
    rw [c] at hC
    by_cases d : Sp.ok ⟨mo, ki, wd, da, ti, re⟩
    case neg =>
      rw [decide_eq_false d] at hD
      rw [rl_no (fun k => d k.2.2.1)]
      exact rr_td _ _ _ _ _ _ _ _ _ _ _ (Lib.hid hA) (Lib.hid hB) (Lib.hid hC) (Lib.hid hD) w
    rw [decide_eq_true d] at hD
    cases e : svB save with
    | false =>
      rw [e] at hE
      rw [rl_no (fun k => by have := sv_yes.2 k.2.2.2.1; simp only at this; rw [e] at this; cases this)]
      exact rr_te _ _ _ _ _ _ _ _ _ _ _ (Lib.hid hA) (Lib.hid hB) (Lib.hid hC) (Lib.hid hD) (Lib.hid hE) w
    | true =>
    rw [e] at hE
    by_cases f : le = ⟨#[]⟩
    · rw [rl_yes ⟨kb, kl, d, sv_yes.1 e, a, by simp only; rw [f]; decide, .inl f⟩]
      exact rr_tf _ _ _ _ _ _ _ _ _ _ _ (Lib.hid hA) (Lib.hid hB) (Lib.hid hC) (Lib.hid hD) (Lib.hid hE) (no_textP f) w
    · have eg : rlOk ⟨nm, fr, last, ⟨mo, ki, wd, da, ti, re⟩, save, le⟩ = rlB le := by
        cases g : rlB le with
        | true => exact rl_yes ⟨kb, kl, d, sv_yes.1 e, a, (rl_letter.1 g).1, .inr (rl_letter.1 g).2⟩
        | false =>
          refine rl_no fun k => ?_
          have := rl_letter.2 ⟨k.2.2.2.2.2.1, k.2.2.2.2.2.2.resolve_left f⟩
          simp only at this
          rw [g] at this
          cases this
      rw [eg]
      exact rr_tg _ _ _ _ _ _ _ _ _ _ _ (Lib.hid hA) (Lib.hid hB) (Lib.hid hC) (Lib.hid hD) (Lib.hid hE) (some_textP f) _ (Lib.hid hG) w
  | false =>
    rw [c] at hC
    have hl : last = 1000000 := by
      rcases kl.2 with h | h
      · have := yr_yes.2 ⟨kl.1, h⟩; rw [c] at this; cases this
      · exact h
    by_cases d : Sp.ok ⟨mo, ki, wd, da, ti, re⟩
    case neg =>
      rw [decide_eq_false d] at hD
      rw [rl_no (fun k => d k.2.2.1)]
      exact rr_fd _ _ _ _ _ _ _ _ _ _ _ (Lib.hid hA) (Lib.hid hB) (Lib.hid hC) (beq_iff_eq.2 hl) (Lib.hid hD) w
    rw [decide_eq_true d] at hD
    cases e : svB save with
    | false =>
      rw [e] at hE
      rw [rl_no (fun k => by have := sv_yes.2 k.2.2.2.1; simp only at this; rw [e] at this; cases this)]
      exact rr_fe _ _ _ _ _ _ _ _ _ _ _ (Lib.hid hA) (Lib.hid hB) (Lib.hid hC) (beq_iff_eq.2 hl) (Lib.hid hD) (Lib.hid hE) w
    | true =>
    rw [e] at hE
    by_cases f : le = ⟨#[]⟩
    · rw [rl_yes ⟨kb, kl, d, sv_yes.1 e, a, by simp only; rw [f]; decide, .inl f⟩]
      exact rr_ff _ _ _ _ _ _ _ _ _ _ _ (Lib.hid hA) (Lib.hid hB) (Lib.hid hC) (beq_iff_eq.2 hl) (Lib.hid hD) (Lib.hid hE) (no_textP f) w
    · have eg : rlOk ⟨nm, fr, last, ⟨mo, ki, wd, da, ti, re⟩, save, le⟩ = rlB le := by
        cases g : rlB le with
        | true => exact rl_yes ⟨kb, kl, d, sv_yes.1 e, a, (rl_letter.1 g).1, .inr (rl_letter.1 g).2⟩
        | false =>
          refine rl_no fun k => ?_
          have := rl_letter.2 ⟨k.2.2.2.2.2.1, k.2.2.2.2.2.2.resolve_left f⟩
          simp only at this
          rw [g] at this
          cases this
      rw [eg]
      exact rr_fg _ _ _ _ _ _ _ _ _ _ _ (Lib.hid hA) (Lib.hid hB) (Lib.hid hC) (beq_iff_eq.2 hl) (Lib.hid hD) (Lib.hid hE) (some_textP f) _ (Lib.hid hG) w
theorem lk_0 (t n : ByteArray) (HA : Hid (∀ W, Calls Tryz.prog 20 #[.string t] W (RetV W (.bool false)))) (w : World) : Calls Tryz.prog 33 #[.agg #[.string t, .string n]] w (RetV w (.bool false)) := by
  go_enter Tryz.func33, Tryz.ntmps33
  go_upto_region 1 with (fail)
  have KB := blk_lit w 59 [.string t, .string n]
  have hb := below_box w (.cells #[.string t, .string n] 59)
  rw [show ([.string t, .string n] : List Value).toArray = #[.string t, .string n] from rfl] at KB
  generalize w.alloc (.cells #[.string t, .string n] 59) = W at *
  obtain ⟨_, x0, x1, _⟩ := KB.two
  go_wp2_with (go_at_call 20; refine (HA.out _).mono ?_; clear HA; rintro e w' ⟨rfl, hk⟩; replace hb := below_thru hb hk)
  go_wp2
  go_ret
  exact ⟨rfl, hb⟩
theorem lk_1 (t n : ByteArray) (b : Bool) (HA : Hid (∀ W, Calls Tryz.prog 20 #[.string t] W (RetV W (.bool true)))) (HB : Hid (∀ W, Calls Tryz.prog 20 #[.string n] W (RetV W (.bool b)))) (w : World) : Calls Tryz.prog 33 #[.agg #[.string t, .string n]] w (RetV w (.bool b)) := by
  go_enter Tryz.func33, Tryz.ntmps33
  go_upto_region 1 with (fail)
  have KB := blk_lit w 59 [.string t, .string n]
  have hb := below_box w (.cells #[.string t, .string n] 59)
  rw [show ([.string t, .string n] : List Value).toArray = #[.string t, .string n] from rfl] at KB
  generalize w.alloc (.cells #[.string t, .string n] 59) = W at *
  obtain ⟨_, x0, x1, _⟩ := KB.two
  go_wp2_with (go_at_call 20; refine (HA.out _).mono ?_; clear HA; rintro e w' ⟨rfl, hk⟩; replace hb := below_thru hb hk; replace KB := KB.below hk; clear x0 x1; obtain ⟨_, x0, x1, _⟩ := KB.two)
  go_wp2_with (go_at_call 20; refine (HB.out _).mono ?_; clear HB; rintro e w' ⟨rfl, hk⟩; replace hb := below_thru hb hk)
  go_wp2
  go_ret
  exact ⟨rfl, hb⟩
noncomputable def lkOk (x : Lk) : Bool := placeB x.target && placeB x.name
theorem rightLinkP (x : Lk) (hx : x.in64) (w : World) : Calls Tryz.prog 33 #[.agg x.vals.toArray] w (RetV w (.bool (lkOk x))) := by
  obtain ⟨t, n⟩ := x
  have hA := fun W => placeP t hx.1 W
  have hB := fun W => placeP n hx.2 W
  unfold lkOk
  simp only
  cases a : placeB t with
  | false => rw [a] at hA; exact lk_0 t n (Lib.hid hA) w
  | true => rw [a] at hA; rw [Bool.true_and]; exact lk_1 t n _ (Lib.hid hA) (Lib.hid hB) w
theorem hs_n (rls fm : ByteArray) (til : Bool) (off kind save year mo ki wd da ti re : Int) (k0 : (kind == 0) = false) (k1 : (kind == 1) = false) (k2 : (kind == 2) = false) (w : World) : Calls Tryz.prog 96 #[.agg #[.int .i64 off, .int .i64 kind, .int .i64 save, .string rls, .string fm, .bool til, .int .i64 year, .int .i64 mo, .int .i64 ki, .int .i64 wd, .int .i64 da, .int .i64 ti, .int .i64 re]] w (RetV w (.bool false)) := by
  go_enter Tryz.func96, Tryz.ntmps96
  go_upto_region 1 with (fail)
  have KB := blk_lit w 52 [.int .i64 off, .int .i64 kind, .int .i64 save, .string rls, .string fm, .bool til, .int .i64 year, .int .i64 mo, .int .i64 ki, .int .i64 wd, .int .i64 da, .int .i64 ti, .int .i64 re]
  have hb := below_box w (.cells #[.int .i64 off, .int .i64 kind, .int .i64 save, .string rls, .string fm, .bool til, .int .i64 year, .int .i64 mo, .int .i64 ki, .int .i64 wd, .int .i64 da, .int .i64 ti, .int .i64 re] 52)
  rw [show ([.int .i64 off, .int .i64 kind, .int .i64 save, .string rls, .string fm, .bool til, .int .i64 year, .int .i64 mo, .int .i64 ki, .int .i64 wd, .int .i64 da, .int .i64 ti, .int .i64 re] : List Value).toArray = #[.int .i64 off, .int .i64 kind, .int .i64 save, .string rls, .string fm, .bool til, .int .i64 year, .int .i64 mo, .int .i64 ki, .int .i64 wd, .int .i64 da, .int .i64 ti, .int .i64 re] from rfl] at KB
  generalize w.alloc (.cells #[.int .i64 off, .int .i64 kind, .int .i64 save, .string rls, .string fm, .bool til, .int .i64 year, .int .i64 mo, .int .i64 ki, .int .i64 wd, .int .i64 da, .int .i64 ti, .int .i64 re] 52) = W at *
  obtain ⟨x0, x1, x2, x3, x4, x5, x6, x7, x8, x9, x10, x11, x12⟩ := KB.thirteenC
  go_wp2
  go_ret
  exact ⟨by first | rfl | simp, hb⟩
theorem hs_0a (rls fm : ByteArray) (til : Bool) (off kind save year mo ki wd da ti re : Int) (k0 : (kind == 0) = true) (s0 : (save == 0) = false) (w : World) : Calls Tryz.prog 96 #[.agg #[.int .i64 off, .int .i64 kind, .int .i64 save, .string rls, .string fm, .bool til, .int .i64 year, .int .i64 mo, .int .i64 ki, .int .i64 wd, .int .i64 da, .int .i64 ti, .int .i64 re]] w (RetV w (.bool false)) := by
  go_enter Tryz.func96, Tryz.ntmps96
  go_upto_region 1 with (fail)
  have KB := blk_lit w 52 [.int .i64 off, .int .i64 kind, .int .i64 save, .string rls, .string fm, .bool til, .int .i64 year, .int .i64 mo, .int .i64 ki, .int .i64 wd, .int .i64 da, .int .i64 ti, .int .i64 re]
  have hb := below_box w (.cells #[.int .i64 off, .int .i64 kind, .int .i64 save, .string rls, .string fm, .bool til, .int .i64 year, .int .i64 mo, .int .i64 ki, .int .i64 wd, .int .i64 da, .int .i64 ti, .int .i64 re] 52)
  rw [show ([.int .i64 off, .int .i64 kind, .int .i64 save, .string rls, .string fm, .bool til, .int .i64 year, .int .i64 mo, .int .i64 ki, .int .i64 wd, .int .i64 da, .int .i64 ti, .int .i64 re] : List Value).toArray = #[.int .i64 off, .int .i64 kind, .int .i64 save, .string rls, .string fm, .bool til, .int .i64 year, .int .i64 mo, .int .i64 ki, .int .i64 wd, .int .i64 da, .int .i64 ti, .int .i64 re] from rfl] at KB
  generalize w.alloc (.cells #[.int .i64 off, .int .i64 kind, .int .i64 save, .string rls, .string fm, .bool til, .int .i64 year, .int .i64 mo, .int .i64 ki, .int .i64 wd, .int .i64 da, .int .i64 ti, .int .i64 re] 52) = W at *
  obtain ⟨x0, x1, x2, x3, x4, x5, x6, x7, x8, x9, x10, x11, x12⟩ := KB.thirteenC
  go_wp2
  go_ret
  exact ⟨by first | rfl | simp, hb⟩
theorem hs_0b (rls fm : ByteArray) (til : Bool) (off kind save year mo ki wd da ti re : Int) (k0 : (kind == 0) = true) (s0 : (save == 0) = true) (f : Bool) (hf : (rls.toList == []) = f ∧ rls.toList.isEmpty = f ∧ (rls.toList = [] ↔ f = true)) (w : World) : Calls Tryz.prog 96 #[.agg #[.int .i64 off, .int .i64 kind, .int .i64 save, .string rls, .string fm, .bool til, .int .i64 year, .int .i64 mo, .int .i64 ki, .int .i64 wd, .int .i64 da, .int .i64 ti, .int .i64 re]] w (RetV w (.bool f)) := by
  obtain ⟨f1, f2, f3⟩ := hf
  go_enter Tryz.func96, Tryz.ntmps96
  go_upto_region 1 with (fail)
  have KB := blk_lit w 52 [.int .i64 off, .int .i64 kind, .int .i64 save, .string rls, .string fm, .bool til, .int .i64 year, .int .i64 mo, .int .i64 ki, .int .i64 wd, .int .i64 da, .int .i64 ti, .int .i64 re]
  have hb := below_box w (.cells #[.int .i64 off, .int .i64 kind, .int .i64 save, .string rls, .string fm, .bool til, .int .i64 year, .int .i64 mo, .int .i64 ki, .int .i64 wd, .int .i64 da, .int .i64 ti, .int .i64 re] 52)
  rw [show ([.int .i64 off, .int .i64 kind, .int .i64 save, .string rls, .string fm, .bool til, .int .i64 year, .int .i64 mo, .int .i64 ki, .int .i64 wd, .int .i64 da, .int .i64 ti, .int .i64 re] : List Value).toArray = #[.int .i64 off, .int .i64 kind, .int .i64 save, .string rls, .string fm, .bool til, .int .i64 year, .int .i64 mo, .int .i64 ki, .int .i64 wd, .int .i64 da, .int .i64 ti, .int .i64 re] from rfl] at KB
  generalize w.alloc (.cells #[.int .i64 off, .int .i64 kind, .int .i64 save, .string rls, .string fm, .bool til, .int .i64 year, .int .i64 mo, .int .i64 ki, .int .i64 wd, .int .i64 da, .int .i64 ti, .int .i64 re] 52) = W at *
  obtain ⟨x0, x1, x2, x3, x4, x5, x6, x7, x8, x9, x10, x11, x12⟩ := KB.thirteenC
  go_wp2
  go_ret
  exact ⟨by first | rfl | simp, hb⟩
theorem hs_1a (rls fm : ByteArray) (til : Bool) (off kind save year mo ki wd da ti re : Int) (k0 : (kind == 0) = false) (k1 : (kind == 1) = true) (HE : Hid (∀ W, Calls Tryz.prog 62 #[.int .i64 save] W (SameV W (.bool false)))) (w : World) : Calls Tryz.prog 96 #[.agg #[.int .i64 off, .int .i64 kind, .int .i64 save, .string rls, .string fm, .bool til, .int .i64 year, .int .i64 mo, .int .i64 ki, .int .i64 wd, .int .i64 da, .int .i64 ti, .int .i64 re]] w (RetV w (.bool false)) := by
  go_enter Tryz.func96, Tryz.ntmps96
  go_upto_region 1 with (fail)
  have KB := blk_lit w 52 [.int .i64 off, .int .i64 kind, .int .i64 save, .string rls, .string fm, .bool til, .int .i64 year, .int .i64 mo, .int .i64 ki, .int .i64 wd, .int .i64 da, .int .i64 ti, .int .i64 re]
  have hb := below_box w (.cells #[.int .i64 off, .int .i64 kind, .int .i64 save, .string rls, .string fm, .bool til, .int .i64 year, .int .i64 mo, .int .i64 ki, .int .i64 wd, .int .i64 da, .int .i64 ti, .int .i64 re] 52)
  rw [show ([.int .i64 off, .int .i64 kind, .int .i64 save, .string rls, .string fm, .bool til, .int .i64 year, .int .i64 mo, .int .i64 ki, .int .i64 wd, .int .i64 da, .int .i64 ti, .int .i64 re] : List Value).toArray = #[.int .i64 off, .int .i64 kind, .int .i64 save, .string rls, .string fm, .bool til, .int .i64 year, .int .i64 mo, .int .i64 ki, .int .i64 wd, .int .i64 da, .int .i64 ti, .int .i64 re] from rfl] at KB
  generalize w.alloc (.cells #[.int .i64 off, .int .i64 kind, .int .i64 save, .string rls, .string fm, .bool til, .int .i64 year, .int .i64 mo, .int .i64 ki, .int .i64 wd, .int .i64 da, .int .i64 ti, .int .i64 re] 52) = W at *
  obtain ⟨x0, x1, x2, x3, x4, x5, x6, x7, x8, x9, x10, x11, x12⟩ := KB.thirteenC
  go_wp2_with (go_at_call 62; refine (HE.out _).mono ?_; clear HE; rintro e w' ⟨rfl, rfl⟩)
  go_wp2
  go_ret
  exact ⟨by first | rfl | simp, hb⟩
theorem hs_1b (rls fm : ByteArray) (til : Bool) (off kind save year mo ki wd da ti re : Int) (k0 : (kind == 0) = false) (k1 : (kind == 1) = true) (f : Bool) (hf : (rls.toList == []) = f ∧ rls.toList.isEmpty = f ∧ (rls.toList = [] ↔ f = true)) (HE : Hid (∀ W, Calls Tryz.prog 62 #[.int .i64 save] W (SameV W (.bool true)))) (w : World) : Calls Tryz.prog 96 #[.agg #[.int .i64 off, .int .i64 kind, .int .i64 save, .string rls, .string fm, .bool til, .int .i64 year, .int .i64 mo, .int .i64 ki, .int .i64 wd, .int .i64 da, .int .i64 ti, .int .i64 re]] w (RetV w (.bool f)) := by
  obtain ⟨f1, f2, f3⟩ := hf
  go_enter Tryz.func96, Tryz.ntmps96
  go_upto_region 1 with (fail)
  have KB := blk_lit w 52 [.int .i64 off, .int .i64 kind, .int .i64 save, .string rls, .string fm, .bool til, .int .i64 year, .int .i64 mo, .int .i64 ki, .int .i64 wd, .int .i64 da, .int .i64 ti, .int .i64 re]
  have hb := below_box w (.cells #[.int .i64 off, .int .i64 kind, .int .i64 save, .string rls, .string fm, .bool til, .int .i64 year, .int .i64 mo, .int .i64 ki, .int .i64 wd, .int .i64 da, .int .i64 ti, .int .i64 re] 52)
  rw [show ([.int .i64 off, .int .i64 kind, .int .i64 save, .string rls, .string fm, .bool til, .int .i64 year, .int .i64 mo, .int .i64 ki, .int .i64 wd, .int .i64 da, .int .i64 ti, .int .i64 re] : List Value).toArray = #[.int .i64 off, .int .i64 kind, .int .i64 save, .string rls, .string fm, .bool til, .int .i64 year, .int .i64 mo, .int .i64 ki, .int .i64 wd, .int .i64 da, .int .i64 ti, .int .i64 re] from rfl] at KB
  generalize w.alloc (.cells #[.int .i64 off, .int .i64 kind, .int .i64 save, .string rls, .string fm, .bool til, .int .i64 year, .int .i64 mo, .int .i64 ki, .int .i64 wd, .int .i64 da, .int .i64 ti, .int .i64 re] 52) = W at *
  obtain ⟨x0, x1, x2, x3, x4, x5, x6, x7, x8, x9, x10, x11, x12⟩ := KB.thirteenC
  go_wp2_with (go_at_call 62; refine (HE.out _).mono ?_; clear HE; rintro e w' ⟨rfl, rfl⟩)
  go_wp2
  go_ret
  exact ⟨by first | rfl | simp, hb⟩
theorem hs_2a (rls fm : ByteArray) (til : Bool) (off kind save year mo ki wd da ti re : Int) (k0 : (kind == 0) = false) (k1 : (kind == 1) = false) (k2 : (kind == 2) = true) (s0 : (save == 0) = false) (w : World) : Calls Tryz.prog 96 #[.agg #[.int .i64 off, .int .i64 kind, .int .i64 save, .string rls, .string fm, .bool til, .int .i64 year, .int .i64 mo, .int .i64 ki, .int .i64 wd, .int .i64 da, .int .i64 ti, .int .i64 re]] w (RetV w (.bool false)) := by
  go_enter Tryz.func96, Tryz.ntmps96
  go_upto_region 1 with (fail)
  have KB := blk_lit w 52 [.int .i64 off, .int .i64 kind, .int .i64 save, .string rls, .string fm, .bool til, .int .i64 year, .int .i64 mo, .int .i64 ki, .int .i64 wd, .int .i64 da, .int .i64 ti, .int .i64 re]
  have hb := below_box w (.cells #[.int .i64 off, .int .i64 kind, .int .i64 save, .string rls, .string fm, .bool til, .int .i64 year, .int .i64 mo, .int .i64 ki, .int .i64 wd, .int .i64 da, .int .i64 ti, .int .i64 re] 52)
  rw [show ([.int .i64 off, .int .i64 kind, .int .i64 save, .string rls, .string fm, .bool til, .int .i64 year, .int .i64 mo, .int .i64 ki, .int .i64 wd, .int .i64 da, .int .i64 ti, .int .i64 re] : List Value).toArray = #[.int .i64 off, .int .i64 kind, .int .i64 save, .string rls, .string fm, .bool til, .int .i64 year, .int .i64 mo, .int .i64 ki, .int .i64 wd, .int .i64 da, .int .i64 ti, .int .i64 re] from rfl] at KB
  generalize w.alloc (.cells #[.int .i64 off, .int .i64 kind, .int .i64 save, .string rls, .string fm, .bool til, .int .i64 year, .int .i64 mo, .int .i64 ki, .int .i64 wd, .int .i64 da, .int .i64 ti, .int .i64 re] 52) = W at *
  obtain ⟨x0, x1, x2, x3, x4, x5, x6, x7, x8, x9, x10, x11, x12⟩ := KB.thirteenC
  go_wp2
  go_ret
  exact ⟨by first | rfl | simp, hb⟩
theorem hs_2b (rls fm : ByteArray) (til : Bool) (off kind save year mo ki wd da ti re : Int) (k0 : (kind == 0) = false) (k1 : (kind == 1) = false) (k2 : (kind == 2) = true) (s0 : (save == 0) = true) (f : Bool) (HA : Hid (∀ W, Calls Tryz.prog 18 #[.string rls] W (SameV W (.bool f)))) (w : World) : Calls Tryz.prog 96 #[.agg #[.int .i64 off, .int .i64 kind, .int .i64 save, .string rls, .string fm, .bool til, .int .i64 year, .int .i64 mo, .int .i64 ki, .int .i64 wd, .int .i64 da, .int .i64 ti, .int .i64 re]] w (RetV w (.bool f)) := by
  go_enter Tryz.func96, Tryz.ntmps96
  go_upto_region 1 with (fail)
  have KB := blk_lit w 52 [.int .i64 off, .int .i64 kind, .int .i64 save, .string rls, .string fm, .bool til, .int .i64 year, .int .i64 mo, .int .i64 ki, .int .i64 wd, .int .i64 da, .int .i64 ti, .int .i64 re]
  have hb := below_box w (.cells #[.int .i64 off, .int .i64 kind, .int .i64 save, .string rls, .string fm, .bool til, .int .i64 year, .int .i64 mo, .int .i64 ki, .int .i64 wd, .int .i64 da, .int .i64 ti, .int .i64 re] 52)
  rw [show ([.int .i64 off, .int .i64 kind, .int .i64 save, .string rls, .string fm, .bool til, .int .i64 year, .int .i64 mo, .int .i64 ki, .int .i64 wd, .int .i64 da, .int .i64 ti, .int .i64 re] : List Value).toArray = #[.int .i64 off, .int .i64 kind, .int .i64 save, .string rls, .string fm, .bool til, .int .i64 year, .int .i64 mo, .int .i64 ki, .int .i64 wd, .int .i64 da, .int .i64 ti, .int .i64 re] from rfl] at KB
  generalize w.alloc (.cells #[.int .i64 off, .int .i64 kind, .int .i64 save, .string rls, .string fm, .bool til, .int .i64 year, .int .i64 mo, .int .i64 ki, .int .i64 wd, .int .i64 da, .int .i64 ti, .int .i64 re] 52) = W at *
  obtain ⟨x0, x1, x2, x3, x4, x5, x6, x7, x8, x9, x10, x11, x12⟩ := KB.thirteenC
  go_wp2_with (go_at_call 18; refine (HA.out _).mono ?_; clear HA; rintro e w' ⟨rfl, rfl⟩)
  go_wp2
  go_ret
  exact ⟨by first | rfl | simp, hb⟩
def hsOk (x : Er) : Bool := if x.kind = 0 then decide (x.save = 0) && decide (x.rules = ⟨#[]⟩) else if x.kind = 1 then svB x.save && decide (x.rules = ⟨#[]⟩) else if x.kind = 2 then decide (x.save = 0) && setB x.rules else false
theorem any_textP (s : ByteArray) : (s.toList == []) = decide (s = ⟨#[]⟩) ∧ s.toList.isEmpty = decide (s = ⟨#[]⟩) ∧ (s.toList = [] ↔ decide (s = ⟨#[]⟩) = true) := by
  by_cases h : s = ⟨#[]⟩
  · obtain ⟨a, b, c⟩ := no_textP h
    rw [decide_eq_true h]
    exact ⟨a, b, fun _ => rfl, fun _ => c⟩
  · obtain ⟨a, b, c⟩ := some_textP h
    rw [decide_eq_false h]
    exact ⟨a, b, fun k => absurd k c, fun k => by cases k⟩
theorem hasSavingP (x : Er) (hx : x.in64) (w : World) : Calls Tryz.prog 96 #[x.val] w (RetV w (.bool (hsOk x))) := by
  obtain ⟨off, kind, save, rls, fm, til, year, ⟨mo, ki, wd, da, ti, re⟩⟩ := x
  have zr : rls.size ≤ maxLen := hx.2.2.2.1
  have hE := fun W => rightSaveP save W
  have hA := fun W => setP rls zr W
  unfold hsOk
  simp only
  by_cases k0 : kind = 0
  · rw [if_pos k0]
    by_cases s0 : save = 0
    · rw [decide_eq_true s0, Bool.true_and]
      exact hs_0b _ _ _ _ _ _ _ _ _ _ _ _ _ (beq_iff_eq.2 k0) (beq_iff_eq.2 s0) _ (any_textP rls) w
    · rw [decide_eq_false s0, Bool.false_and]
      exact hs_0a _ _ _ _ _ _ _ _ _ _ _ _ _ (beq_iff_eq.2 k0) (beq_eq_false_iff_ne.2 s0) w
  rw [if_neg k0]
  by_cases k1 : kind = 1
  · rw [if_pos k1]
    cases e : svB save with
    | false =>
      rw [e] at hE
      exact hs_1a _ _ _ _ _ _ _ _ _ _ _ _ _ (beq_eq_false_iff_ne.2 k0) (beq_iff_eq.2 k1) (Lib.hid hE) w
    | true =>
      rw [e] at hE
      rw [Bool.true_and]
      exact hs_1b _ _ _ _ _ _ _ _ _ _ _ _ _ (beq_eq_false_iff_ne.2 k0) (beq_iff_eq.2 k1) _ (any_textP rls) (Lib.hid hE) w
  rw [if_neg k1]
  by_cases k2 : kind = 2
  · rw [if_pos k2]
    by_cases s0 : save = 0
    · rw [decide_eq_true s0, Bool.true_and]
      exact hs_2b _ _ _ _ _ _ _ _ _ _ _ _ _ (beq_eq_false_iff_ne.2 k0) (beq_eq_false_iff_ne.2 k1) (beq_iff_eq.2 k2) (beq_iff_eq.2 s0) _ (Lib.hid hA) w
    · rw [decide_eq_false s0, Bool.false_and]
      exact hs_2a _ _ _ _ _ _ _ _ _ _ _ _ _ (beq_eq_false_iff_ne.2 k0) (beq_eq_false_iff_ne.2 k1) (beq_iff_eq.2 k2) (beq_eq_false_iff_ne.2 s0) w
  rw [if_neg k2]
  exact hs_n _ _ _ _ _ _ _ _ _ _ _ _ _ (beq_eq_false_iff_ne.2 k0) (beq_eq_false_iff_ne.2 k1) (beq_eq_false_iff_ne.2 k2) w
theorem he_ta (rls fm : ByteArray) (off kind save year mo ki wd da ti re : Int) (HY : Hid (∀ W, Calls Tryz.prog 60 #[.int .i64 year] W (SameV W (.bool false)))) (w : World) : Calls Tryz.prog 98 #[.agg #[.int .i64 off, .int .i64 kind, .int .i64 save, .string rls, .string fm, .bool true, .int .i64 year, .int .i64 mo, .int .i64 ki, .int .i64 wd, .int .i64 da, .int .i64 ti, .int .i64 re]] w (RetV w (.bool false)) := by
  go_enter Tryz.func98, Tryz.ntmps98
  go_upto_region 1 with (fail)
  have KB := blk_lit w 52 [.int .i64 off, .int .i64 kind, .int .i64 save, .string rls, .string fm, .bool true, .int .i64 year, .int .i64 mo, .int .i64 ki, .int .i64 wd, .int .i64 da, .int .i64 ti, .int .i64 re]
  have hb := below_box w (.cells #[.int .i64 off, .int .i64 kind, .int .i64 save, .string rls, .string fm, .bool true, .int .i64 year, .int .i64 mo, .int .i64 ki, .int .i64 wd, .int .i64 da, .int .i64 ti, .int .i64 re] 52)
  rw [show ([.int .i64 off, .int .i64 kind, .int .i64 save, .string rls, .string fm, .bool true, .int .i64 year, .int .i64 mo, .int .i64 ki, .int .i64 wd, .int .i64 da, .int .i64 ti, .int .i64 re] : List Value).toArray = #[.int .i64 off, .int .i64 kind, .int .i64 save, .string rls, .string fm, .bool true, .int .i64 year, .int .i64 mo, .int .i64 ki, .int .i64 wd, .int .i64 da, .int .i64 ti, .int .i64 re] from rfl] at KB
  generalize w.alloc (.cells #[.int .i64 off, .int .i64 kind, .int .i64 save, .string rls, .string fm, .bool true, .int .i64 year, .int .i64 mo, .int .i64 ki, .int .i64 wd, .int .i64 da, .int .i64 ti, .int .i64 re] 52) = W at *
  obtain ⟨x0, x1, x2, x3, x4, x5, x6, x7, x8, x9, x10, x11, x12⟩ := KB.thirteenC
  go_wp2_with (go_at_call 60; refine (HY.out _).mono ?_; clear HY; rintro e w' ⟨rfl, rfl⟩)
  go_wp2
  go_ret
  exact ⟨by first | rfl | simp, hb⟩
theorem he_tb (rls fm : ByteArray) (off kind save year mo ki wd da ti re : Int) (f : Bool) (HY : Hid (∀ W, Calls Tryz.prog 60 #[.int .i64 year] W (SameV W (.bool true)))) (HD : Hid (∀ W, Calls Tryz.prog 61 #[.agg #[.int .i64 mo, .int .i64 ki, .int .i64 wd, .int .i64 da, .int .i64 ti, .int .i64 re]] W (RetV W (.bool f)))) (w : World) : Calls Tryz.prog 98 #[.agg #[.int .i64 off, .int .i64 kind, .int .i64 save, .string rls, .string fm, .bool true, .int .i64 year, .int .i64 mo, .int .i64 ki, .int .i64 wd, .int .i64 da, .int .i64 ti, .int .i64 re]] w (RetV w (.bool f)) := by
  go_enter Tryz.func98, Tryz.ntmps98
  go_upto_region 1 with (fail)
  have KB := blk_lit w 52 [.int .i64 off, .int .i64 kind, .int .i64 save, .string rls, .string fm, .bool true, .int .i64 year, .int .i64 mo, .int .i64 ki, .int .i64 wd, .int .i64 da, .int .i64 ti, .int .i64 re]
  have hb := below_box w (.cells #[.int .i64 off, .int .i64 kind, .int .i64 save, .string rls, .string fm, .bool true, .int .i64 year, .int .i64 mo, .int .i64 ki, .int .i64 wd, .int .i64 da, .int .i64 ti, .int .i64 re] 52)
  rw [show ([.int .i64 off, .int .i64 kind, .int .i64 save, .string rls, .string fm, .bool true, .int .i64 year, .int .i64 mo, .int .i64 ki, .int .i64 wd, .int .i64 da, .int .i64 ti, .int .i64 re] : List Value).toArray = #[.int .i64 off, .int .i64 kind, .int .i64 save, .string rls, .string fm, .bool true, .int .i64 year, .int .i64 mo, .int .i64 ki, .int .i64 wd, .int .i64 da, .int .i64 ti, .int .i64 re] from rfl] at KB
  generalize w.alloc (.cells #[.int .i64 off, .int .i64 kind, .int .i64 save, .string rls, .string fm, .bool true, .int .i64 year, .int .i64 mo, .int .i64 ki, .int .i64 wd, .int .i64 da, .int .i64 ti, .int .i64 re] 52) = W at *
  obtain ⟨x0, x1, x2, x3, x4, x5, x6, x7, x8, x9, x10, x11, x12⟩ := KB.thirteenC
  go_wp2_with (go_at_call 60; refine (HY.out _).mono ?_; clear HY; rintro e w' ⟨rfl, rfl⟩)
  go_wp2_with (go_at_call 61; refine (HD.out _).mono ?_; clear HD; rintro e w' ⟨rfl, hk⟩; replace hb := below_thru hb hk; replace KB := KB.below hk; clear hk x0 x1 x2 x3 x4 x5 x6 x7 x8 x9 x10 x11 x12; obtain ⟨x0, x1, x2, x3, x4, x5, x6, x7, x8, x9, x10, x11, x12⟩ := KB.thirteenC)
  go_wp2
  go_ret
  exact ⟨by first | rfl | simp, hb⟩
theorem he_fa (rls fm : ByteArray) (off kind save year mo ki wd da ti re : Int) (y0 : (year == 0) = false) (w : World) : Calls Tryz.prog 98 #[.agg #[.int .i64 off, .int .i64 kind, .int .i64 save, .string rls, .string fm, .bool false, .int .i64 year, .int .i64 mo, .int .i64 ki, .int .i64 wd, .int .i64 da, .int .i64 ti, .int .i64 re]] w (RetV w (.bool false)) := by
  go_enter Tryz.func98, Tryz.ntmps98
  go_upto_region 1 with (fail)
  have KB := blk_lit w 52 [.int .i64 off, .int .i64 kind, .int .i64 save, .string rls, .string fm, .bool false, .int .i64 year, .int .i64 mo, .int .i64 ki, .int .i64 wd, .int .i64 da, .int .i64 ti, .int .i64 re]
  have hb := below_box w (.cells #[.int .i64 off, .int .i64 kind, .int .i64 save, .string rls, .string fm, .bool false, .int .i64 year, .int .i64 mo, .int .i64 ki, .int .i64 wd, .int .i64 da, .int .i64 ti, .int .i64 re] 52)
  rw [show ([.int .i64 off, .int .i64 kind, .int .i64 save, .string rls, .string fm, .bool false, .int .i64 year, .int .i64 mo, .int .i64 ki, .int .i64 wd, .int .i64 da, .int .i64 ti, .int .i64 re] : List Value).toArray = #[.int .i64 off, .int .i64 kind, .int .i64 save, .string rls, .string fm, .bool false, .int .i64 year, .int .i64 mo, .int .i64 ki, .int .i64 wd, .int .i64 da, .int .i64 ti, .int .i64 re] from rfl] at KB
  generalize w.alloc (.cells #[.int .i64 off, .int .i64 kind, .int .i64 save, .string rls, .string fm, .bool false, .int .i64 year, .int .i64 mo, .int .i64 ki, .int .i64 wd, .int .i64 da, .int .i64 ti, .int .i64 re] 52) = W at *
  obtain ⟨x0, x1, x2, x3, x4, x5, x6, x7, x8, x9, x10, x11, x12⟩ := KB.thirteenC
  go_wp2
  go_ret
  exact ⟨by first | rfl | simp, hb⟩
theorem he_f0 (rls fm : ByteArray) (off kind save year mo ki wd da ti re : Int) (y0 : (year == 0) = true) (z0 : (mo == 0) = false) (w : World) : Calls Tryz.prog 98 #[.agg #[.int .i64 off, .int .i64 kind, .int .i64 save, .string rls, .string fm, .bool false, .int .i64 year, .int .i64 mo, .int .i64 ki, .int .i64 wd, .int .i64 da, .int .i64 ti, .int .i64 re]] w (RetV w (.bool false)) := by
  go_enter Tryz.func98, Tryz.ntmps98
  go_upto_region 1 with (fail)
  have KB := blk_lit w 52 [.int .i64 off, .int .i64 kind, .int .i64 save, .string rls, .string fm, .bool false, .int .i64 year, .int .i64 mo, .int .i64 ki, .int .i64 wd, .int .i64 da, .int .i64 ti, .int .i64 re]
  have hb := below_box w (.cells #[.int .i64 off, .int .i64 kind, .int .i64 save, .string rls, .string fm, .bool false, .int .i64 year, .int .i64 mo, .int .i64 ki, .int .i64 wd, .int .i64 da, .int .i64 ti, .int .i64 re] 52)
  rw [show ([.int .i64 off, .int .i64 kind, .int .i64 save, .string rls, .string fm, .bool false, .int .i64 year, .int .i64 mo, .int .i64 ki, .int .i64 wd, .int .i64 da, .int .i64 ti, .int .i64 re] : List Value).toArray = #[.int .i64 off, .int .i64 kind, .int .i64 save, .string rls, .string fm, .bool false, .int .i64 year, .int .i64 mo, .int .i64 ki, .int .i64 wd, .int .i64 da, .int .i64 ti, .int .i64 re] from rfl] at KB
  generalize w.alloc (.cells #[.int .i64 off, .int .i64 kind, .int .i64 save, .string rls, .string fm, .bool false, .int .i64 year, .int .i64 mo, .int .i64 ki, .int .i64 wd, .int .i64 da, .int .i64 ti, .int .i64 re] 52) = W at *
  obtain ⟨x0, x1, x2, x3, x4, x5, x6, x7, x8, x9, x10, x11, x12⟩ := KB.thirteenC
  go_wp2
  go_ret
  exact ⟨by first | rfl | simp, hb⟩
theorem he_f1 (rls fm : ByteArray) (off kind save year mo ki wd da ti re : Int) (y0 : (year == 0) = true) (z0 : (mo == 0) = true) (z1 : (ki == 0) = false) (w : World) : Calls Tryz.prog 98 #[.agg #[.int .i64 off, .int .i64 kind, .int .i64 save, .string rls, .string fm, .bool false, .int .i64 year, .int .i64 mo, .int .i64 ki, .int .i64 wd, .int .i64 da, .int .i64 ti, .int .i64 re]] w (RetV w (.bool false)) := by
  go_enter Tryz.func98, Tryz.ntmps98
  go_upto_region 1 with (fail)
  have KB := blk_lit w 52 [.int .i64 off, .int .i64 kind, .int .i64 save, .string rls, .string fm, .bool false, .int .i64 year, .int .i64 mo, .int .i64 ki, .int .i64 wd, .int .i64 da, .int .i64 ti, .int .i64 re]
  have hb := below_box w (.cells #[.int .i64 off, .int .i64 kind, .int .i64 save, .string rls, .string fm, .bool false, .int .i64 year, .int .i64 mo, .int .i64 ki, .int .i64 wd, .int .i64 da, .int .i64 ti, .int .i64 re] 52)
  rw [show ([.int .i64 off, .int .i64 kind, .int .i64 save, .string rls, .string fm, .bool false, .int .i64 year, .int .i64 mo, .int .i64 ki, .int .i64 wd, .int .i64 da, .int .i64 ti, .int .i64 re] : List Value).toArray = #[.int .i64 off, .int .i64 kind, .int .i64 save, .string rls, .string fm, .bool false, .int .i64 year, .int .i64 mo, .int .i64 ki, .int .i64 wd, .int .i64 da, .int .i64 ti, .int .i64 re] from rfl] at KB
  generalize w.alloc (.cells #[.int .i64 off, .int .i64 kind, .int .i64 save, .string rls, .string fm, .bool false, .int .i64 year, .int .i64 mo, .int .i64 ki, .int .i64 wd, .int .i64 da, .int .i64 ti, .int .i64 re] 52) = W at *
  obtain ⟨x0, x1, x2, x3, x4, x5, x6, x7, x8, x9, x10, x11, x12⟩ := KB.thirteenC
  go_wp2
  go_ret
  exact ⟨by first | rfl | simp, hb⟩
theorem he_f2 (rls fm : ByteArray) (off kind save year mo ki wd da ti re : Int) (y0 : (year == 0) = true) (z0 : (mo == 0) = true) (z1 : (ki == 0) = true) (z2 : (wd == 0) = false) (w : World) : Calls Tryz.prog 98 #[.agg #[.int .i64 off, .int .i64 kind, .int .i64 save, .string rls, .string fm, .bool false, .int .i64 year, .int .i64 mo, .int .i64 ki, .int .i64 wd, .int .i64 da, .int .i64 ti, .int .i64 re]] w (RetV w (.bool false)) := by
  go_enter Tryz.func98, Tryz.ntmps98
  go_upto_region 1 with (fail)
  have KB := blk_lit w 52 [.int .i64 off, .int .i64 kind, .int .i64 save, .string rls, .string fm, .bool false, .int .i64 year, .int .i64 mo, .int .i64 ki, .int .i64 wd, .int .i64 da, .int .i64 ti, .int .i64 re]
  have hb := below_box w (.cells #[.int .i64 off, .int .i64 kind, .int .i64 save, .string rls, .string fm, .bool false, .int .i64 year, .int .i64 mo, .int .i64 ki, .int .i64 wd, .int .i64 da, .int .i64 ti, .int .i64 re] 52)
  rw [show ([.int .i64 off, .int .i64 kind, .int .i64 save, .string rls, .string fm, .bool false, .int .i64 year, .int .i64 mo, .int .i64 ki, .int .i64 wd, .int .i64 da, .int .i64 ti, .int .i64 re] : List Value).toArray = #[.int .i64 off, .int .i64 kind, .int .i64 save, .string rls, .string fm, .bool false, .int .i64 year, .int .i64 mo, .int .i64 ki, .int .i64 wd, .int .i64 da, .int .i64 ti, .int .i64 re] from rfl] at KB
  generalize w.alloc (.cells #[.int .i64 off, .int .i64 kind, .int .i64 save, .string rls, .string fm, .bool false, .int .i64 year, .int .i64 mo, .int .i64 ki, .int .i64 wd, .int .i64 da, .int .i64 ti, .int .i64 re] 52) = W at *
  obtain ⟨x0, x1, x2, x3, x4, x5, x6, x7, x8, x9, x10, x11, x12⟩ := KB.thirteenC
  go_wp2
  go_ret
  exact ⟨by first | rfl | simp, hb⟩
theorem he_f3 (rls fm : ByteArray) (off kind save year mo ki wd da ti re : Int) (y0 : (year == 0) = true) (z0 : (mo == 0) = true) (z1 : (ki == 0) = true) (z2 : (wd == 0) = true) (z3 : (da == 0) = false) (w : World) : Calls Tryz.prog 98 #[.agg #[.int .i64 off, .int .i64 kind, .int .i64 save, .string rls, .string fm, .bool false, .int .i64 year, .int .i64 mo, .int .i64 ki, .int .i64 wd, .int .i64 da, .int .i64 ti, .int .i64 re]] w (RetV w (.bool false)) := by
  go_enter Tryz.func98, Tryz.ntmps98
  go_upto_region 1 with (fail)
  have KB := blk_lit w 52 [.int .i64 off, .int .i64 kind, .int .i64 save, .string rls, .string fm, .bool false, .int .i64 year, .int .i64 mo, .int .i64 ki, .int .i64 wd, .int .i64 da, .int .i64 ti, .int .i64 re]
  have hb := below_box w (.cells #[.int .i64 off, .int .i64 kind, .int .i64 save, .string rls, .string fm, .bool false, .int .i64 year, .int .i64 mo, .int .i64 ki, .int .i64 wd, .int .i64 da, .int .i64 ti, .int .i64 re] 52)
  rw [show ([.int .i64 off, .int .i64 kind, .int .i64 save, .string rls, .string fm, .bool false, .int .i64 year, .int .i64 mo, .int .i64 ki, .int .i64 wd, .int .i64 da, .int .i64 ti, .int .i64 re] : List Value).toArray = #[.int .i64 off, .int .i64 kind, .int .i64 save, .string rls, .string fm, .bool false, .int .i64 year, .int .i64 mo, .int .i64 ki, .int .i64 wd, .int .i64 da, .int .i64 ti, .int .i64 re] from rfl] at KB
  generalize w.alloc (.cells #[.int .i64 off, .int .i64 kind, .int .i64 save, .string rls, .string fm, .bool false, .int .i64 year, .int .i64 mo, .int .i64 ki, .int .i64 wd, .int .i64 da, .int .i64 ti, .int .i64 re] 52) = W at *
  obtain ⟨x0, x1, x2, x3, x4, x5, x6, x7, x8, x9, x10, x11, x12⟩ := KB.thirteenC
  go_wp2
  go_ret
  exact ⟨by first | rfl | simp, hb⟩
theorem he_f4 (rls fm : ByteArray) (off kind save year mo ki wd da ti re : Int) (y0 : (year == 0) = true) (z0 : (mo == 0) = true) (z1 : (ki == 0) = true) (z2 : (wd == 0) = true) (z3 : (da == 0) = true) (z4 : (ti == 0) = false) (w : World) : Calls Tryz.prog 98 #[.agg #[.int .i64 off, .int .i64 kind, .int .i64 save, .string rls, .string fm, .bool false, .int .i64 year, .int .i64 mo, .int .i64 ki, .int .i64 wd, .int .i64 da, .int .i64 ti, .int .i64 re]] w (RetV w (.bool false)) := by
  go_enter Tryz.func98, Tryz.ntmps98
  go_upto_region 1 with (fail)
  have KB := blk_lit w 52 [.int .i64 off, .int .i64 kind, .int .i64 save, .string rls, .string fm, .bool false, .int .i64 year, .int .i64 mo, .int .i64 ki, .int .i64 wd, .int .i64 da, .int .i64 ti, .int .i64 re]
  have hb := below_box w (.cells #[.int .i64 off, .int .i64 kind, .int .i64 save, .string rls, .string fm, .bool false, .int .i64 year, .int .i64 mo, .int .i64 ki, .int .i64 wd, .int .i64 da, .int .i64 ti, .int .i64 re] 52)
  rw [show ([.int .i64 off, .int .i64 kind, .int .i64 save, .string rls, .string fm, .bool false, .int .i64 year, .int .i64 mo, .int .i64 ki, .int .i64 wd, .int .i64 da, .int .i64 ti, .int .i64 re] : List Value).toArray = #[.int .i64 off, .int .i64 kind, .int .i64 save, .string rls, .string fm, .bool false, .int .i64 year, .int .i64 mo, .int .i64 ki, .int .i64 wd, .int .i64 da, .int .i64 ti, .int .i64 re] from rfl] at KB
  generalize w.alloc (.cells #[.int .i64 off, .int .i64 kind, .int .i64 save, .string rls, .string fm, .bool false, .int .i64 year, .int .i64 mo, .int .i64 ki, .int .i64 wd, .int .i64 da, .int .i64 ti, .int .i64 re] 52) = W at *
  obtain ⟨x0, x1, x2, x3, x4, x5, x6, x7, x8, x9, x10, x11, x12⟩ := KB.thirteenC
  go_wp2
  go_ret
  exact ⟨by first | rfl | simp, hb⟩
theorem he_f5 (rls fm : ByteArray) (off kind save year mo ki wd da ti re : Int) (y0 : (year == 0) = true) (z0 : (mo == 0) = true) (z1 : (ki == 0) = true) (z2 : (wd == 0) = true) (z3 : (da == 0) = true) (z4 : (ti == 0) = true) (z5 : (re == 0) = false) (w : World) : Calls Tryz.prog 98 #[.agg #[.int .i64 off, .int .i64 kind, .int .i64 save, .string rls, .string fm, .bool false, .int .i64 year, .int .i64 mo, .int .i64 ki, .int .i64 wd, .int .i64 da, .int .i64 ti, .int .i64 re]] w (RetV w (.bool false)) := by
  go_enter Tryz.func98, Tryz.ntmps98
  go_upto_region 1 with (fail)
  have KB := blk_lit w 52 [.int .i64 off, .int .i64 kind, .int .i64 save, .string rls, .string fm, .bool false, .int .i64 year, .int .i64 mo, .int .i64 ki, .int .i64 wd, .int .i64 da, .int .i64 ti, .int .i64 re]
  have hb := below_box w (.cells #[.int .i64 off, .int .i64 kind, .int .i64 save, .string rls, .string fm, .bool false, .int .i64 year, .int .i64 mo, .int .i64 ki, .int .i64 wd, .int .i64 da, .int .i64 ti, .int .i64 re] 52)
  rw [show ([.int .i64 off, .int .i64 kind, .int .i64 save, .string rls, .string fm, .bool false, .int .i64 year, .int .i64 mo, .int .i64 ki, .int .i64 wd, .int .i64 da, .int .i64 ti, .int .i64 re] : List Value).toArray = #[.int .i64 off, .int .i64 kind, .int .i64 save, .string rls, .string fm, .bool false, .int .i64 year, .int .i64 mo, .int .i64 ki, .int .i64 wd, .int .i64 da, .int .i64 ti, .int .i64 re] from rfl] at KB
  generalize w.alloc (.cells #[.int .i64 off, .int .i64 kind, .int .i64 save, .string rls, .string fm, .bool false, .int .i64 year, .int .i64 mo, .int .i64 ki, .int .i64 wd, .int .i64 da, .int .i64 ti, .int .i64 re] 52) = W at *
  obtain ⟨x0, x1, x2, x3, x4, x5, x6, x7, x8, x9, x10, x11, x12⟩ := KB.thirteenC
  go_wp2
  go_ret
  exact ⟨by first | rfl | simp, hb⟩
theorem he_fz (rls fm : ByteArray) (off kind save year mo ki wd da ti re : Int) (y0 : (year == 0) = true) (z0 : (mo == 0) = true) (z1 : (ki == 0) = true) (z2 : (wd == 0) = true) (z3 : (da == 0) = true) (z4 : (ti == 0) = true) (z5 : (re == 0) = true) (w : World) : Calls Tryz.prog 98 #[.agg #[.int .i64 off, .int .i64 kind, .int .i64 save, .string rls, .string fm, .bool false, .int .i64 year, .int .i64 mo, .int .i64 ki, .int .i64 wd, .int .i64 da, .int .i64 ti, .int .i64 re]] w (RetV w (.bool true)) := by
  go_enter Tryz.func98, Tryz.ntmps98
  go_upto_region 1 with (fail)
  have KB := blk_lit w 52 [.int .i64 off, .int .i64 kind, .int .i64 save, .string rls, .string fm, .bool false, .int .i64 year, .int .i64 mo, .int .i64 ki, .int .i64 wd, .int .i64 da, .int .i64 ti, .int .i64 re]
  have hb := below_box w (.cells #[.int .i64 off, .int .i64 kind, .int .i64 save, .string rls, .string fm, .bool false, .int .i64 year, .int .i64 mo, .int .i64 ki, .int .i64 wd, .int .i64 da, .int .i64 ti, .int .i64 re] 52)
  rw [show ([.int .i64 off, .int .i64 kind, .int .i64 save, .string rls, .string fm, .bool false, .int .i64 year, .int .i64 mo, .int .i64 ki, .int .i64 wd, .int .i64 da, .int .i64 ti, .int .i64 re] : List Value).toArray = #[.int .i64 off, .int .i64 kind, .int .i64 save, .string rls, .string fm, .bool false, .int .i64 year, .int .i64 mo, .int .i64 ki, .int .i64 wd, .int .i64 da, .int .i64 ti, .int .i64 re] from rfl] at KB
  generalize w.alloc (.cells #[.int .i64 off, .int .i64 kind, .int .i64 save, .string rls, .string fm, .bool false, .int .i64 year, .int .i64 mo, .int .i64 ki, .int .i64 wd, .int .i64 da, .int .i64 ti, .int .i64 re] 52) = W at *
  obtain ⟨x0, x1, x2, x3, x4, x5, x6, x7, x8, x9, x10, x11, x12⟩ := KB.thirteenC
  go_wp2
  go_ret
  exact ⟨by first | rfl | simp, hb⟩
def heOk (x : Er) : Bool := if x.til = true then yrB x.year && decide x.sp.ok else decide (x.year = 0) && decide (x.sp = .zero)
theorem hasEndP (x : Er) (w : World) : Calls Tryz.prog 98 #[x.val] w (RetV w (.bool (heOk x))) := by
  obtain ⟨off, kind, save, rls, fm, til, year, ⟨mo, ki, wd, da, ti, re⟩⟩ := x
  have hY := fun W => rightYearP year W
  have hD := fun W => rightMP ⟨mo, ki, wd, da, ti, re⟩ W
  unfold heOk
  simp only
  cases til with
  | true =>
    rw [if_pos rfl]
    cases e : yrB year with
    | false => rw [e] at hY; exact he_ta _ _ _ _ _ _ _ _ _ _ _ _ (Lib.hid hY) w
    | true => rw [e] at hY; rw [Bool.true_and]; exact he_tb _ _ _ _ _ _ _ _ _ _ _ _ _ (Lib.hid hY) (Lib.hid hD) w
  | false =>
    rw [if_neg (by decide)]
    by_cases y0 : year = 0
    case neg => rw [decide_eq_false y0, Bool.false_and]; exact he_fa _ _ _ _ _ _ _ _ _ _ _ _ (beq_eq_false_iff_ne.2 y0) w
    rw [decide_eq_true y0, Bool.true_and]
    by_cases z0 : mo = 0
    case neg =>
      rw [decide_eq_false (fun c : Sp.mk mo ki wd da ti re = .zero => z0 (congrArg Sp.mo c))]
      exact he_f0 _ _ _ _ _ _ _ _ _ _ _ _ (beq_iff_eq.2 y0)  (beq_eq_false_iff_ne.2 z0) w
    by_cases z1 : ki = 0
    case neg =>
      rw [decide_eq_false (fun c : Sp.mk mo ki wd da ti re = .zero => z1 (congrArg Sp.ki c))]
      exact he_f1 _ _ _ _ _ _ _ _ _ _ _ _ (beq_iff_eq.2 y0) (beq_iff_eq.2 z0) (beq_eq_false_iff_ne.2 z1) w
    by_cases z2 : wd = 0
    case neg =>
      rw [decide_eq_false (fun c : Sp.mk mo ki wd da ti re = .zero => z2 (congrArg Sp.wd c))]
      exact he_f2 _ _ _ _ _ _ _ _ _ _ _ _ (beq_iff_eq.2 y0) (beq_iff_eq.2 z0) (beq_iff_eq.2 z1) (beq_eq_false_iff_ne.2 z2) w
    by_cases z3 : da = 0
    case neg =>
      rw [decide_eq_false (fun c : Sp.mk mo ki wd da ti re = .zero => z3 (congrArg Sp.da c))]
      exact he_f3 _ _ _ _ _ _ _ _ _ _ _ _ (beq_iff_eq.2 y0) (beq_iff_eq.2 z0) (beq_iff_eq.2 z1) (beq_iff_eq.2 z2) (beq_eq_false_iff_ne.2 z3) w
    by_cases z4 : ti = 0
    case neg =>
      rw [decide_eq_false (fun c : Sp.mk mo ki wd da ti re = .zero => z4 (congrArg Sp.ti c))]
      exact he_f4 _ _ _ _ _ _ _ _ _ _ _ _ (beq_iff_eq.2 y0) (beq_iff_eq.2 z0) (beq_iff_eq.2 z1) (beq_iff_eq.2 z2) (beq_iff_eq.2 z3) (beq_eq_false_iff_ne.2 z4) w
    by_cases z5 : re = 0
    case neg =>
      rw [decide_eq_false (fun c : Sp.mk mo ki wd da ti re = .zero => z5 (congrArg Sp.re c))]
      exact he_f5 _ _ _ _ _ _ _ _ _ _ _ _ (beq_iff_eq.2 y0) (beq_iff_eq.2 z0) (beq_iff_eq.2 z1) (beq_iff_eq.2 z2) (beq_iff_eq.2 z3) (beq_iff_eq.2 z4) (beq_eq_false_iff_ne.2 z5) w
    rw [decide_eq_true (show Sp.mk mo ki wd da ti re = .zero by rw [z0, z1, z2, z3, z4, z5]; rfl)]
    exact he_fz _ _ _ _ _ _ _ _ _ _ _ _ (beq_iff_eq.2 y0) (beq_iff_eq.2 z0) (beq_iff_eq.2 z1) (beq_iff_eq.2 z2) (beq_iff_eq.2 z3) (beq_iff_eq.2 z4) (beq_iff_eq.2 z5) w
theorem re_a (rls fm : ByteArray) (til : Bool) (off kind save year mo ki wd da ti re : Int) (o1 : decide (-86400 < off) = false) (w : World) : Calls Tryz.prog 65 #[.agg #[.int .i64 off, .int .i64 kind, .int .i64 save, .string rls, .string fm, .bool til, .int .i64 year, .int .i64 mo, .int .i64 ki, .int .i64 wd, .int .i64 da, .int .i64 ti, .int .i64 re]] w (RetV w (.bool false)) := by
  go_enter Tryz.func65, Tryz.ntmps65
  go_upto_region 1 with (fail)
  have KB := blk_lit w 52 [.int .i64 off, .int .i64 kind, .int .i64 save, .string rls, .string fm, .bool til, .int .i64 year, .int .i64 mo, .int .i64 ki, .int .i64 wd, .int .i64 da, .int .i64 ti, .int .i64 re]
  have hb := below_box w (.cells #[.int .i64 off, .int .i64 kind, .int .i64 save, .string rls, .string fm, .bool til, .int .i64 year, .int .i64 mo, .int .i64 ki, .int .i64 wd, .int .i64 da, .int .i64 ti, .int .i64 re] 52)
  rw [show ([.int .i64 off, .int .i64 kind, .int .i64 save, .string rls, .string fm, .bool til, .int .i64 year, .int .i64 mo, .int .i64 ki, .int .i64 wd, .int .i64 da, .int .i64 ti, .int .i64 re] : List Value).toArray = #[.int .i64 off, .int .i64 kind, .int .i64 save, .string rls, .string fm, .bool til, .int .i64 year, .int .i64 mo, .int .i64 ki, .int .i64 wd, .int .i64 da, .int .i64 ti, .int .i64 re] from rfl] at KB
  generalize w.alloc (.cells #[.int .i64 off, .int .i64 kind, .int .i64 save, .string rls, .string fm, .bool til, .int .i64 year, .int .i64 mo, .int .i64 ki, .int .i64 wd, .int .i64 da, .int .i64 ti, .int .i64 re] 52) = W at *
  obtain ⟨x0, x1, x2, x3, x4, x5, x6, x7, x8, x9, x10, x11, x12⟩ := KB.thirteenC
  go_wp2
  go_ret
  exact ⟨by first | rfl | simp, hb⟩
theorem re_b (rls fm : ByteArray) (til : Bool) (off kind save year mo ki wd da ti re : Int) (o1 : decide (-86400 < off) = true) (o2 : decide (off < 86400) = false) (w : World) : Calls Tryz.prog 65 #[.agg #[.int .i64 off, .int .i64 kind, .int .i64 save, .string rls, .string fm, .bool til, .int .i64 year, .int .i64 mo, .int .i64 ki, .int .i64 wd, .int .i64 da, .int .i64 ti, .int .i64 re]] w (RetV w (.bool false)) := by
  go_enter Tryz.func65, Tryz.ntmps65
  go_upto_region 1 with (fail)
  have KB := blk_lit w 52 [.int .i64 off, .int .i64 kind, .int .i64 save, .string rls, .string fm, .bool til, .int .i64 year, .int .i64 mo, .int .i64 ki, .int .i64 wd, .int .i64 da, .int .i64 ti, .int .i64 re]
  have hb := below_box w (.cells #[.int .i64 off, .int .i64 kind, .int .i64 save, .string rls, .string fm, .bool til, .int .i64 year, .int .i64 mo, .int .i64 ki, .int .i64 wd, .int .i64 da, .int .i64 ti, .int .i64 re] 52)
  rw [show ([.int .i64 off, .int .i64 kind, .int .i64 save, .string rls, .string fm, .bool til, .int .i64 year, .int .i64 mo, .int .i64 ki, .int .i64 wd, .int .i64 da, .int .i64 ti, .int .i64 re] : List Value).toArray = #[.int .i64 off, .int .i64 kind, .int .i64 save, .string rls, .string fm, .bool til, .int .i64 year, .int .i64 mo, .int .i64 ki, .int .i64 wd, .int .i64 da, .int .i64 ti, .int .i64 re] from rfl] at KB
  generalize w.alloc (.cells #[.int .i64 off, .int .i64 kind, .int .i64 save, .string rls, .string fm, .bool til, .int .i64 year, .int .i64 mo, .int .i64 ki, .int .i64 wd, .int .i64 da, .int .i64 ti, .int .i64 re] 52) = W at *
  obtain ⟨x0, x1, x2, x3, x4, x5, x6, x7, x8, x9, x10, x11, x12⟩ := KB.thirteenC
  go_wp2
  go_ret
  exact ⟨by first | rfl | simp, hb⟩
theorem re_c (rls fm : ByteArray) (til : Bool) (off kind save year mo ki wd da ti re : Int) (o1 : decide (-86400 < off) = true) (o2 : decide (off < 86400) = true) (H1 : Hid (∀ W, Calls Tryz.prog 96 #[.agg #[.int .i64 off, .int .i64 kind, .int .i64 save, .string rls, .string fm, .bool til, .int .i64 year, .int .i64 mo, .int .i64 ki, .int .i64 wd, .int .i64 da, .int .i64 ti, .int .i64 re]] W (RetV W (.bool false)))) (w : World) : Calls Tryz.prog 65 #[.agg #[.int .i64 off, .int .i64 kind, .int .i64 save, .string rls, .string fm, .bool til, .int .i64 year, .int .i64 mo, .int .i64 ki, .int .i64 wd, .int .i64 da, .int .i64 ti, .int .i64 re]] w (RetV w (.bool false)) := by
  go_enter Tryz.func65, Tryz.ntmps65
  go_upto_region 1 with (fail)
  have KB := blk_lit w 52 [.int .i64 off, .int .i64 kind, .int .i64 save, .string rls, .string fm, .bool til, .int .i64 year, .int .i64 mo, .int .i64 ki, .int .i64 wd, .int .i64 da, .int .i64 ti, .int .i64 re]
  have hb := below_box w (.cells #[.int .i64 off, .int .i64 kind, .int .i64 save, .string rls, .string fm, .bool til, .int .i64 year, .int .i64 mo, .int .i64 ki, .int .i64 wd, .int .i64 da, .int .i64 ti, .int .i64 re] 52)
  rw [show ([.int .i64 off, .int .i64 kind, .int .i64 save, .string rls, .string fm, .bool til, .int .i64 year, .int .i64 mo, .int .i64 ki, .int .i64 wd, .int .i64 da, .int .i64 ti, .int .i64 re] : List Value).toArray = #[.int .i64 off, .int .i64 kind, .int .i64 save, .string rls, .string fm, .bool til, .int .i64 year, .int .i64 mo, .int .i64 ki, .int .i64 wd, .int .i64 da, .int .i64 ti, .int .i64 re] from rfl] at KB
  generalize w.alloc (.cells #[.int .i64 off, .int .i64 kind, .int .i64 save, .string rls, .string fm, .bool til, .int .i64 year, .int .i64 mo, .int .i64 ki, .int .i64 wd, .int .i64 da, .int .i64 ti, .int .i64 re] 52) = W at *
  obtain ⟨x0, x1, x2, x3, x4, x5, x6, x7, x8, x9, x10, x11, x12⟩ := KB.thirteenC
  go_wp2_with (go_at_call 96; refine (H1.out _).mono ?_; clear H1; rintro e w' ⟨rfl, hk⟩; replace hb := below_thru hb hk; replace KB := KB.below hk; clear hk x0 x1 x2 x3 x4 x5 x6 x7 x8 x9 x10 x11 x12; obtain ⟨x0, x1, x2, x3, x4, x5, x6, x7, x8, x9, x10, x11, x12⟩ := KB.thirteenC)
  go_wp2
  go_ret
  exact ⟨by first | rfl | simp, hb⟩
theorem re_d (rls fm : ByteArray) (til : Bool) (off kind save year mo ki wd da ti re : Int) (o1 : decide (-86400 < off) = true) (o2 : decide (off < 86400) = true) (H1 : Hid (∀ W, Calls Tryz.prog 96 #[.agg #[.int .i64 off, .int .i64 kind, .int .i64 save, .string rls, .string fm, .bool til, .int .i64 year, .int .i64 mo, .int .i64 ki, .int .i64 wd, .int .i64 da, .int .i64 ti, .int .i64 re]] W (RetV W (.bool true)))) (H2 : Hid (∀ W, Calls Tryz.prog 97 #[.string fm] W (RetDr W (.bool false)))) (w : World) : Calls Tryz.prog 65 #[.agg #[.int .i64 off, .int .i64 kind, .int .i64 save, .string rls, .string fm, .bool til, .int .i64 year, .int .i64 mo, .int .i64 ki, .int .i64 wd, .int .i64 da, .int .i64 ti, .int .i64 re]] w (RetV w (.bool false)) := by
  go_enter Tryz.func65, Tryz.ntmps65
  go_upto_region 1 with (fail)
  have KB := blk_lit w 52 [.int .i64 off, .int .i64 kind, .int .i64 save, .string rls, .string fm, .bool til, .int .i64 year, .int .i64 mo, .int .i64 ki, .int .i64 wd, .int .i64 da, .int .i64 ti, .int .i64 re]
  have hb := below_box w (.cells #[.int .i64 off, .int .i64 kind, .int .i64 save, .string rls, .string fm, .bool til, .int .i64 year, .int .i64 mo, .int .i64 ki, .int .i64 wd, .int .i64 da, .int .i64 ti, .int .i64 re] 52)
  rw [show ([.int .i64 off, .int .i64 kind, .int .i64 save, .string rls, .string fm, .bool til, .int .i64 year, .int .i64 mo, .int .i64 ki, .int .i64 wd, .int .i64 da, .int .i64 ti, .int .i64 re] : List Value).toArray = #[.int .i64 off, .int .i64 kind, .int .i64 save, .string rls, .string fm, .bool til, .int .i64 year, .int .i64 mo, .int .i64 ki, .int .i64 wd, .int .i64 da, .int .i64 ti, .int .i64 re] from rfl] at KB
  generalize w.alloc (.cells #[.int .i64 off, .int .i64 kind, .int .i64 save, .string rls, .string fm, .bool til, .int .i64 year, .int .i64 mo, .int .i64 ki, .int .i64 wd, .int .i64 da, .int .i64 ti, .int .i64 re] 52) = W at *
  obtain ⟨x0, x1, x2, x3, x4, x5, x6, x7, x8, x9, x10, x11, x12⟩ := KB.thirteenC
  go_wp2_with (go_at_call 96; refine (H1.out _).mono ?_; clear H1; rintro e w' ⟨rfl, hk⟩; replace hb := below_thru hb hk; replace KB := KB.below hk; clear hk x0 x1 x2 x3 x4 x5 x6 x7 x8 x9 x10 x11 x12; obtain ⟨x0, x1, x2, x3, x4, x5, x6, x7, x8, x9, x10, x11, x12⟩ := KB.thirteenC)
  go_wp2_with (go_at_call 97; refine (H2.out _).mono ?_; clear H2; rintro e w' ⟨rfl, m, rfl⟩; replace hb := below_thru hb (below_drewN (Below.refl _ _) m); replace KB := KB.below (below_drewN (Below.refl _ _) m); clear x0 x1 x2 x3 x4 x5 x6 x7 x8 x9 x10 x11 x12; obtain ⟨x0, x1, x2, x3, x4, x5, x6, x7, x8, x9, x10, x11, x12⟩ := KB.thirteenC)
  go_wp2
  go_ret
  exact ⟨by first | rfl | simp, hb⟩
theorem re_e (rls fm : ByteArray) (til : Bool) (off kind save year mo ki wd da ti re : Int) (o1 : decide (-86400 < off) = true) (o2 : decide (off < 86400) = true) (f : Bool) (H1 : Hid (∀ W, Calls Tryz.prog 96 #[.agg #[.int .i64 off, .int .i64 kind, .int .i64 save, .string rls, .string fm, .bool til, .int .i64 year, .int .i64 mo, .int .i64 ki, .int .i64 wd, .int .i64 da, .int .i64 ti, .int .i64 re]] W (RetV W (.bool true)))) (H2 : Hid (∀ W, Calls Tryz.prog 97 #[.string fm] W (RetDr W (.bool true)))) (H3 : Hid (∀ W, Calls Tryz.prog 98 #[.agg #[.int .i64 off, .int .i64 kind, .int .i64 save, .string rls, .string fm, .bool til, .int .i64 year, .int .i64 mo, .int .i64 ki, .int .i64 wd, .int .i64 da, .int .i64 ti, .int .i64 re]] W (RetV W (.bool f)))) (w : World) : Calls Tryz.prog 65 #[.agg #[.int .i64 off, .int .i64 kind, .int .i64 save, .string rls, .string fm, .bool til, .int .i64 year, .int .i64 mo, .int .i64 ki, .int .i64 wd, .int .i64 da, .int .i64 ti, .int .i64 re]] w (RetV w (.bool f)) := by
  go_enter Tryz.func65, Tryz.ntmps65
  go_upto_region 1 with (fail)
  have KB := blk_lit w 52 [.int .i64 off, .int .i64 kind, .int .i64 save, .string rls, .string fm, .bool til, .int .i64 year, .int .i64 mo, .int .i64 ki, .int .i64 wd, .int .i64 da, .int .i64 ti, .int .i64 re]
  have hb := below_box w (.cells #[.int .i64 off, .int .i64 kind, .int .i64 save, .string rls, .string fm, .bool til, .int .i64 year, .int .i64 mo, .int .i64 ki, .int .i64 wd, .int .i64 da, .int .i64 ti, .int .i64 re] 52)
  rw [show ([.int .i64 off, .int .i64 kind, .int .i64 save, .string rls, .string fm, .bool til, .int .i64 year, .int .i64 mo, .int .i64 ki, .int .i64 wd, .int .i64 da, .int .i64 ti, .int .i64 re] : List Value).toArray = #[.int .i64 off, .int .i64 kind, .int .i64 save, .string rls, .string fm, .bool til, .int .i64 year, .int .i64 mo, .int .i64 ki, .int .i64 wd, .int .i64 da, .int .i64 ti, .int .i64 re] from rfl] at KB
  generalize w.alloc (.cells #[.int .i64 off, .int .i64 kind, .int .i64 save, .string rls, .string fm, .bool til, .int .i64 year, .int .i64 mo, .int .i64 ki, .int .i64 wd, .int .i64 da, .int .i64 ti, .int .i64 re] 52) = W at *
  obtain ⟨x0, x1, x2, x3, x4, x5, x6, x7, x8, x9, x10, x11, x12⟩ := KB.thirteenC
  go_wp2_with (go_at_call 96; refine (H1.out _).mono ?_; clear H1; rintro e w' ⟨rfl, hk⟩; replace hb := below_thru hb hk; replace KB := KB.below hk; clear hk x0 x1 x2 x3 x4 x5 x6 x7 x8 x9 x10 x11 x12; obtain ⟨x0, x1, x2, x3, x4, x5, x6, x7, x8, x9, x10, x11, x12⟩ := KB.thirteenC)
  go_wp2_with (go_at_call 97; refine (H2.out _).mono ?_; clear H2; rintro e w' ⟨rfl, m, rfl⟩; replace hb := below_thru hb (below_drewN (Below.refl _ _) m); replace KB := KB.below (below_drewN (Below.refl _ _) m); clear x0 x1 x2 x3 x4 x5 x6 x7 x8 x9 x10 x11 x12; obtain ⟨x0, x1, x2, x3, x4, x5, x6, x7, x8, x9, x10, x11, x12⟩ := KB.thirteenC)
  go_wp2_with (go_at_call 98; refine (H3.out _).mono ?_; clear H3; rintro e w' ⟨rfl, hk⟩; replace hb := below_thru hb hk; replace KB := KB.below hk; clear hk x0 x1 x2 x3 x4 x5 x6 x7 x8 x9 x10 x11 x12; obtain ⟨x0, x1, x2, x3, x4, x5, x6, x7, x8, x9, x10, x11, x12⟩ := KB.thirteenC)
  go_wp2
  go_ret
  exact ⟨by first | rfl | simp, hb⟩
noncomputable def erOk (x : Er) : Bool := @decide x.ok (Classical.propDecidable _)
theorem er_is (x : Er) : erOk x = (decide (-86400 < x.off) && (decide (x.off < 86400) && (hsOk x && (formatB x.fmt && heOk x)))) := by
  rw [Bool.eq_iff_iff]
  unfold erOk
  rw [@decide_eq_true_iff _ (Classical.propDecidable _)]
  simp only [Bool.and_eq_true, decide_eq_true_eq]
  constructor
  · rintro ⟨⟨o1, o2⟩, s, f, ⟨k0, k2⟩, n1, n2, n3, t1, t0⟩
    refine ⟨o1, o2, ?_, f, ?_⟩
    · unfold hsOk
      by_cases e0 : x.kind = 0
      · rw [if_pos e0, n1 (by omega), n2 (by omega)]; rfl
      rw [if_neg e0]
      by_cases e1 : x.kind = 1
      · rw [if_pos e1, sv_yes.2 s, n2 (by omega)]; rfl
      rw [if_neg e1, if_pos (show x.kind = 2 by omega), n1 e1, n3 (by omega)]; rfl
    · unfold heOk
      cases ht : x.til with
      | true => rw [if_pos rfl, yr_yes.2 (t1 ht).1, decide_eq_true (t1 ht).2]; rfl
      | false => rw [if_neg (by decide), (t0 ht).1, (t0 ht).2]; rfl
  · rintro ⟨o1, o2, s, f, h⟩
    unfold hsOk at s
    have sv : (-43200 ≤ x.save ∧ x.save ≤ 43200) ∧ (0 ≤ x.kind ∧ x.kind ≤ 2) ∧ (x.kind ≠ 1 → x.save = 0) ∧ (x.kind ≠ 2 → x.rules = ⟨#[]⟩) ∧ (x.kind = 2 → setB x.rules = true) := by
      by_cases e0 : x.kind = 0
      · rw [if_pos e0, Bool.and_eq_true, decide_eq_true_eq, decide_eq_true_eq] at s
        exact ⟨by omega, by omega, fun _ => s.1, fun _ => s.2, fun c => by omega⟩
      rw [if_neg e0] at s
      by_cases e1 : x.kind = 1
      · rw [if_pos e1, Bool.and_eq_true, decide_eq_true_eq] at s
        exact ⟨sv_yes.1 s.1, by omega, fun c => absurd e1 c, fun _ => s.2, fun c => by omega⟩
      rw [if_neg e1] at s
      by_cases e2 : x.kind = 2
      · rw [if_pos e2, Bool.and_eq_true, decide_eq_true_eq] at s
        exact ⟨by omega, by omega, fun _ => s.1, fun c => absurd e2 c, fun _ => s.2⟩
      rw [if_neg e2] at s
      cases s
    refine ⟨⟨o1, o2⟩, sv.1, f, sv.2.1, sv.2.2.1, sv.2.2.2.1, sv.2.2.2.2, fun ht => ?_, fun ht => ?_⟩
    · unfold heOk at h
      rw [if_pos ht, Bool.and_eq_true, decide_eq_true_eq] at h
      exact ⟨yr_yes.1 h.1, h.2⟩
    · unfold heOk at h
      rw [if_neg (by rw [ht]; decide), Bool.and_eq_true, decide_eq_true_eq, decide_eq_true_eq] at h
      exact h
theorem rightEraP (x : Er) (hx : x.in64) (w : World) : Calls Tryz.prog 65 #[x.val] w (RetV w (.bool (erOk x))) := by
  rw [er_is]
  have h1 := fun W => hasSavingP x hx W
  have h2 := fun W => formatP x.fmt hx.2.2.2.2.1 W
  have h3 := fun W => hasEndP x W
  generalize hsOk x = s at *
  generalize heOk x = h at *
  obtain ⟨off, kind, save, rls, fm, til, year, ⟨mo, ki, wd, da, ti, re⟩⟩ := x
  simp only at h2 ⊢
  generalize formatB fm = f at *
  by_cases o1 : -86400 < off
  case neg => rw [decide_eq_false o1, Bool.false_and]; exact re_a _ _ _ _ _ _ _ _ _ _ _ _ _ (decide_eq_false o1) w
  by_cases o2 : off < 86400
  case neg => rw [decide_eq_false o2, Bool.false_and, Bool.and_false]; exact re_b _ _ _ _ _ _ _ _ _ _ _ _ _ (decide_eq_true o1) (decide_eq_false o2) w
  rw [decide_eq_true o1, decide_eq_true o2, Bool.true_and, Bool.true_and]
  cases s with
  | false => rw [Bool.false_and]; exact re_c _ _ _ _ _ _ _ _ _ _ _ _ _ (decide_eq_true o1) (decide_eq_true o2) (Lib.hid h1) w
  | true =>
  rw [Bool.true_and]
  cases f with
  | false => rw [Bool.false_and]; exact re_d _ _ _ _ _ _ _ _ _ _ _ _ _ (decide_eq_true o1) (decide_eq_true o2) (Lib.hid h1) (Lib.hid h2) w
  | true =>
  rw [Bool.true_and]
  exact re_e _ _ _ _ _ _ _ _ _ _ _ _ _ (decide_eq_true o1) (decide_eq_true o2) _ (Lib.hid h1) (Lib.hid h2) (Lib.hid h3) w
def listB {α : Type} (l : List α) (few most : Int) (ok : α → Bool) : Bool := decide (few ≤ (l.length : Int)) && (decide ((l.length : Int) ≤ most) && l.all ok)
theorem all_no {α : Type} {l : List α} {ok : α → Bool} {k : Nat} {x : α} (h : l[k]? = some x) (b : ok x = false) : l.all ok = false := by
  rw [← Bool.not_eq_true, List.all_eq_true]
  intro c
  rw [c x (List.mem_of_getElem? h)] at b
  cases b
theorem all_yes {α : Type} {l : List α} {ok : α → Bool} (h : ∀ j x, j < l.length → l[j]? = some x → ok x = true) : l.all ok = true := by
  rw [List.all_eq_true]
  intro x hx
  obtain ⟨j, hj, e⟩ := List.mem_iff_getElem.1 hx
  exact h j x hj (by rw [List.getElem?_eq_getElem hj, e])
theorem listRuleP (few most : Int) (K : FuncId) (eK : ∀ args w, (callFunc K args).run Tryz.prog w = .ok (.enter K args) w) (ok : Rl → Bool) (A : Option Addr) (n c : Nat) (l : List Rl) (w : World) (ha : Rs 11 w A n c (l.map Rl.vals))
    (RK : ∀ x ∈ l, ∀ W, Below w.heap.size w W → Calls Tryz.prog K #[x.val] W (RetV W (.bool (ok x)))) :
    Calls Tryz.prog 28 #[.slice A n c, .int .i64 few, .int .i64 most, .func (.func K) #[] #[]] w (RetV w (.bool (listB l few most ok))) := by
  have ln : l.length = n := by have := ha.len; simpa using this
  have mx : n ≤ 9223372036854775807 := Nat.le_trans ha.cap ha.max
  have E0 := Lib.hid (show listB l few most ok = (decide (few ≤ (n : Int)) && (decide ((n : Int) ≤ most) && l.all ok)) by unfold listB; rw [ln])
  have LN := Lib.hid ln
  clear ln
  by_cases h1 : (n : Int) < few
  · have d1 : decide ((n : Int) < few) = true := decide_eq_true h1
    have E := Lib.hid (show listB l few most ok = false by rw [E0.out, decide_eq_false (p := few ≤ (n : Int)) (by omega), Bool.false_and])
    clear E0 h1 ha RK
    go_enter Tryz.func28, Tryz.ntmps28
    go_wp2
    go_ret
    exact ⟨by rw [E.out]; rfl, Below.refl _ _⟩
  have d1 : decide ((n : Int) < few) = false := decide_eq_false h1
  by_cases h2 : most < (n : Int)
  · have d2 : decide (most < (n : Int)) = true := decide_eq_true h2
    have E := Lib.hid (show listB l few most ok = false by rw [E0.out, decide_eq_false (p := (n : Int) ≤ most) (by omega), Bool.false_and, Bool.and_false])
    clear E0 h1 h2 ha RK
    go_enter Tryz.func28, Tryz.ntmps28
    go_wp2
    go_ret
    exact ⟨by rw [E.out]; rfl, Below.refl _ _⟩
  have d2 : decide (most < (n : Int)) = false := decide_eq_false h2
  have E := Lib.hid (show listB l few most ok = l.all ok by rw [E0.out, decide_eq_true (p := few ≤ (n : Int)) (by omega), decide_eq_true (p := (n : Int) ≤ most) (by omega), Bool.true_and, Bool.true_and])
  clear E0 h1 h2
  have HA := Lib.hid ha
  have HK := Lib.hid RK
  clear ha RK
  go_enter Tryz.func28, Tryz.ntmps28
  go_wp2_with fail
  go_loopw [10, 23] (fun v10 v23 wr => ∃ k : Nat, k ≤ n ∧ v23 = .int .i64 k ∧ (∀ j x, j < k → l[j]? = some x → ok x = true) ∧ Below w.heap.size w wr) (fun _ v _ => n - (intOf v).toNat)
  case atStart => exact ⟨0, by omega, rfl, fun j x h => absurd h (by omega), Below.refl _ _⟩
  case round =>
    obtain ⟨k, hk, rfl, hR, hbel⟩ := hrel
    have HR := Lib.hid hR
    clear hR
    by_cases h4 : k < n
    · obtain ⟨x, hxx⟩ : ∃ x, l[k]? = some x := ⟨_, List.getElem?_eq_getElem (by rw [LN.out]; exact h4)⟩
      obtain ⟨g, o, ea0, hg, ca⟩ := (HA.out.below hbel).cells (by omega)
      subst ea0
      have STEP := Lib.hid (show ok x = true → ∀ j y, j < k + 1 → l[j]? = some y → ok y = true from fun h j y hj hy => by
        by_cases e : j = k
        · subst e; rw [hxx] at hy; cases hy; exact h
        · exact HR.out j y (by omega) hy)
      have BAD := Lib.hid (fun h : ok x = false => all_no hxx h)
      have RX := HK.out x (List.mem_of_getElem? hxx)
      have ra := row_at ca (show (l.map Rl.vals)[k]? = some (Rl.vals x) by rw [List.getElem?_map, hxx]; rfl)
      generalize ok x = b at *
      obtain ⟨nm, fr, last, ⟨mo, ki, wd, da, ti, re⟩, save, le⟩ := x
      have x0 : wr.cell? ⟨g, o + k * 11, none⟩ = some (.string nm) := ra 0 _ rfl
      have x1 : wr.cell? ⟨g, o + k * 11 + 1, none⟩ = some (.int .i64 fr) := ra 1 _ rfl
      have x2 : wr.cell? ⟨g, o + k * 11 + 2, none⟩ = some (.int .i64 last) := ra 2 _ rfl
      have x3 : wr.cell? ⟨g, o + k * 11 + 3, none⟩ = some (.int .i64 mo) := ra 3 _ rfl
      have x4 : wr.cell? ⟨g, o + k * 11 + 4, none⟩ = some (.int .i64 ki) := ra 4 _ rfl
      have x5 : wr.cell? ⟨g, o + k * 11 + 5, none⟩ = some (.int .i64 wd) := ra 5 _ rfl
      have x6 : wr.cell? ⟨g, o + k * 11 + 6, none⟩ = some (.int .i64 da) := ra 6 _ rfl
      have x7 : wr.cell? ⟨g, o + k * 11 + 7, none⟩ = some (.int .i64 ti) := ra 7 _ rfl
      have x8 : wr.cell? ⟨g, o + k * 11 + 8, none⟩ = some (.int .i64 re) := ra 8 _ rfl
      have x9 : wr.cell? ⟨g, o + k * 11 + 9, none⟩ = some (.int .i64 save) := ra 9 _ rfl
      have x10 : wr.cell? ⟨g, o + k * 11 + 10, none⟩ = some (.string le) := ra 10 _ rfl
      clear ca ra hxx
      have RX0 := fun X (h : Below w.heap.size w X) => (show Calls Tryz.prog K #[.agg #[.string nm, .int .i64 fr, .int .i64 last, .int .i64 mo, .int .i64 ki, .int .i64 wd, .int .i64 da, .int .i64 ti, .int .i64 re, .int .i64 save, .string le]] X (RetV X (.bool b)) from RX X h)
      clear RX
      go_upto_region 6 with (fail)
      have KB := blk_lit wr 57 [.string nm, .int .i64 fr, .int .i64 last, .int .i64 mo, .int .i64 ki, .int .i64 wd, .int .i64 da, .int .i64 ti, .int .i64 re, .int .i64 save, .string le]
      have hb := below_thru hbel (below_box wr (.cells #[.string nm, .int .i64 fr, .int .i64 last, .int .i64 mo, .int .i64 ki, .int .i64 wd, .int .i64 da, .int .i64 ti, .int .i64 re, .int .i64 save, .string le] 57))
      rw [show ([.string nm, .int .i64 fr, .int .i64 last, .int .i64 mo, .int .i64 ki, .int .i64 wd, .int .i64 da, .int .i64 ti, .int .i64 re, .int .i64 save, .string le] : List Value).toArray = #[.string nm, .int .i64 fr, .int .i64 last, .int .i64 mo, .int .i64 ki, .int .i64 wd, .int .i64 da, .int .i64 ti, .int .i64 re, .int .i64 save, .string le] from rfl] at KB
      generalize wr.alloc (.cells #[.string nm, .int .i64 fr, .int .i64 last, .int .i64 mo, .int .i64 ki, .int .i64 wd, .int .i64 da, .int .i64 ti, .int .i64 re, .int .i64 save, .string le] 57) = W at *
      generalize wr.heap.size = bb at *
      clear x0 x1 x2 x3 x4 x5 x6 x7 x8 x9 x10 hg hbel
      obtain ⟨y0, y1, y2, y3, y4, y5, y6, y7, y8, y9, y10⟩ := KB.elevenC
      have RX := Lib.hid (RX0 W hb)
      clear RX0
      cases b with
      | true =>
        go_wp2_with fail
        refine RX.out.mono ?_
        clear RX
        rintro e W2 ⟨rfl, hk2⟩
        go_wp2
        go_roundw
        case rel => exact ⟨k + 1, by omega, int_eqS (by omega), STEP.out (by first | rfl | trivial), below_thru hb hk2⟩
        case measure => simp only [intOf]; omega
      | false =>
        go_wp2_with fail
        refine RX.out.mono ?_
        clear RX
        rintro e W2 ⟨rfl, hk2⟩
        go_wp2
        go_ret
        exact ⟨by rw [E.out, BAD.out (by first | rfl | trivial)]; rfl, below_thru hb hk2⟩
    · obtain rfl : k = n := by omega
      have Y := Lib.hid (show l.all ok = true from all_yes fun j x hj hx => HR.out j x (by rw [LN.out] at hj; exact hj) hx)
      go_wp2
      go_ret
      exact ⟨by rw [E.out, Y.out]; rfl, hbel⟩
theorem listEraP (few most : Int) (K : FuncId) (eK : ∀ args w, (callFunc K args).run Tryz.prog w = .ok (.enter K args) w) (ok : Er → Bool) (A : Option Addr) (n c : Nat) (l : List Er) (w : World) (ha : Rs 13 w A n c (l.map Er.vals))
    (RK : ∀ x ∈ l, ∀ W, Below w.heap.size w W → Calls Tryz.prog K #[x.val] W (RetV W (.bool (ok x)))) :
    Calls Tryz.prog 64 #[.slice A n c, .int .i64 few, .int .i64 most, .func (.func K) #[] #[]] w (RetV w (.bool (listB l few most ok))) := by
  have ln : l.length = n := by have := ha.len; simpa using this
  have mx : n ≤ 9223372036854775807 := Nat.le_trans ha.cap ha.max
  have E0 := Lib.hid (show listB l few most ok = (decide (few ≤ (n : Int)) && (decide ((n : Int) ≤ most) && l.all ok)) by unfold listB; rw [ln])
  have LN := Lib.hid ln
  clear ln
  by_cases h1 : (n : Int) < few
  · have d1 : decide ((n : Int) < few) = true := decide_eq_true h1
    have E := Lib.hid (show listB l few most ok = false by rw [E0.out, decide_eq_false (p := few ≤ (n : Int)) (by omega), Bool.false_and])
    clear E0 h1 ha RK
    go_enter Tryz.func64, Tryz.ntmps64
    go_wp2
    go_ret
    exact ⟨by rw [E.out]; rfl, Below.refl _ _⟩
  have d1 : decide ((n : Int) < few) = false := decide_eq_false h1
  by_cases h2 : most < (n : Int)
  · have d2 : decide (most < (n : Int)) = true := decide_eq_true h2
    have E := Lib.hid (show listB l few most ok = false by rw [E0.out, decide_eq_false (p := (n : Int) ≤ most) (by omega), Bool.false_and, Bool.and_false])
    clear E0 h1 h2 ha RK
    go_enter Tryz.func64, Tryz.ntmps64
    go_wp2
    go_ret
    exact ⟨by rw [E.out]; rfl, Below.refl _ _⟩
  have d2 : decide (most < (n : Int)) = false := decide_eq_false h2
  have E := Lib.hid (show listB l few most ok = l.all ok by rw [E0.out, decide_eq_true (p := few ≤ (n : Int)) (by omega), decide_eq_true (p := (n : Int) ≤ most) (by omega), Bool.true_and, Bool.true_and])
  clear E0 h1 h2
  have HA := Lib.hid ha
  have HK := Lib.hid RK
  clear ha RK
  go_enter Tryz.func64, Tryz.ntmps64
  go_wp2_with fail
  go_loopw [10, 23] (fun v10 v23 wr => ∃ k : Nat, k ≤ n ∧ v23 = .int .i64 k ∧ (∀ j x, j < k → l[j]? = some x → ok x = true) ∧ Below w.heap.size w wr) (fun _ v _ => n - (intOf v).toNat)
  case atStart => exact ⟨0, by omega, rfl, fun j x h => absurd h (by omega), Below.refl _ _⟩
  case round =>
    obtain ⟨k, hk, rfl, hR, hbel⟩ := hrel
    have HR := Lib.hid hR
    clear hR
    by_cases h4 : k < n
    · obtain ⟨x, hxx⟩ : ∃ x, l[k]? = some x := ⟨_, List.getElem?_eq_getElem (by rw [LN.out]; exact h4)⟩
      obtain ⟨g, o, ea0, hg, ca⟩ := (HA.out.below hbel).cells (by omega)
      subst ea0
      have STEP := Lib.hid (show ok x = true → ∀ j y, j < k + 1 → l[j]? = some y → ok y = true from fun h j y hj hy => by
        by_cases e : j = k
        · subst e; rw [hxx] at hy; cases hy; exact h
        · exact HR.out j y (by omega) hy)
      have BAD := Lib.hid (fun h : ok x = false => all_no hxx h)
      have RX := HK.out x (List.mem_of_getElem? hxx)
      have ra := row_at ca (show (l.map Er.vals)[k]? = some (Er.vals x) by rw [List.getElem?_map, hxx]; rfl)
      generalize ok x = b at *
      obtain ⟨off, kind, save, rls, fm, til, year, ⟨mo, ki, wd, da, ti, re⟩⟩ := x
      have x0 : wr.cell? ⟨g, o + k * 13, none⟩ = some (.int .i64 off) := ra 0 _ rfl
      have x1 : wr.cell? ⟨g, o + k * 13 + 1, none⟩ = some (.int .i64 kind) := ra 1 _ rfl
      have x2 : wr.cell? ⟨g, o + k * 13 + 2, none⟩ = some (.int .i64 save) := ra 2 _ rfl
      have x3 : wr.cell? ⟨g, o + k * 13 + 3, none⟩ = some (.string rls) := ra 3 _ rfl
      have x4 : wr.cell? ⟨g, o + k * 13 + 4, none⟩ = some (.string fm) := ra 4 _ rfl
      have x5 : wr.cell? ⟨g, o + k * 13 + 5, none⟩ = some (.bool til) := ra 5 _ rfl
      have x6 : wr.cell? ⟨g, o + k * 13 + 6, none⟩ = some (.int .i64 year) := ra 6 _ rfl
      have x7 : wr.cell? ⟨g, o + k * 13 + 7, none⟩ = some (.int .i64 mo) := ra 7 _ rfl
      have x8 : wr.cell? ⟨g, o + k * 13 + 8, none⟩ = some (.int .i64 ki) := ra 8 _ rfl
      have x9 : wr.cell? ⟨g, o + k * 13 + 9, none⟩ = some (.int .i64 wd) := ra 9 _ rfl
      have x10 : wr.cell? ⟨g, o + k * 13 + 10, none⟩ = some (.int .i64 da) := ra 10 _ rfl
      have x11 : wr.cell? ⟨g, o + k * 13 + 11, none⟩ = some (.int .i64 ti) := ra 11 _ rfl
      have x12 : wr.cell? ⟨g, o + k * 13 + 12, none⟩ = some (.int .i64 re) := ra 12 _ rfl
      clear ca ra hxx
      have RX0 := fun X (h : Below w.heap.size w X) => (show Calls Tryz.prog K #[.agg #[.int .i64 off, .int .i64 kind, .int .i64 save, .string rls, .string fm, .bool til, .int .i64 year, .int .i64 mo, .int .i64 ki, .int .i64 wd, .int .i64 da, .int .i64 ti, .int .i64 re]] X (RetV X (.bool b)) from RX X h)
      clear RX
      go_upto_region 6 with (fail)
      have KB := blk_lit wr 52 [.int .i64 off, .int .i64 kind, .int .i64 save, .string rls, .string fm, .bool til, .int .i64 year, .int .i64 mo, .int .i64 ki, .int .i64 wd, .int .i64 da, .int .i64 ti, .int .i64 re]
      have hb := below_thru hbel (below_box wr (.cells #[.int .i64 off, .int .i64 kind, .int .i64 save, .string rls, .string fm, .bool til, .int .i64 year, .int .i64 mo, .int .i64 ki, .int .i64 wd, .int .i64 da, .int .i64 ti, .int .i64 re] 52))
      rw [show ([.int .i64 off, .int .i64 kind, .int .i64 save, .string rls, .string fm, .bool til, .int .i64 year, .int .i64 mo, .int .i64 ki, .int .i64 wd, .int .i64 da, .int .i64 ti, .int .i64 re] : List Value).toArray = #[.int .i64 off, .int .i64 kind, .int .i64 save, .string rls, .string fm, .bool til, .int .i64 year, .int .i64 mo, .int .i64 ki, .int .i64 wd, .int .i64 da, .int .i64 ti, .int .i64 re] from rfl] at KB
      generalize wr.alloc (.cells #[.int .i64 off, .int .i64 kind, .int .i64 save, .string rls, .string fm, .bool til, .int .i64 year, .int .i64 mo, .int .i64 ki, .int .i64 wd, .int .i64 da, .int .i64 ti, .int .i64 re] 52) = W at *
      generalize wr.heap.size = bb at *
      clear x0 x1 x2 x3 x4 x5 x6 x7 x8 x9 x10 x11 x12 hg hbel
      obtain ⟨y0, y1, y2, y3, y4, y5, y6, y7, y8, y9, y10, y11, y12⟩ := KB.thirteenC
      have RX := Lib.hid (RX0 W hb)
      clear RX0
      cases b with
      | true =>
        go_wp2_with fail
        refine RX.out.mono ?_
        clear RX
        rintro e W2 ⟨rfl, hk2⟩
        go_wp2
        go_roundw
        case rel => exact ⟨k + 1, by omega, int_eqS (by omega), STEP.out (by first | rfl | trivial), below_thru hb hk2⟩
        case measure => simp only [intOf]; omega
      | false =>
        go_wp2_with fail
        refine RX.out.mono ?_
        clear RX
        rintro e W2 ⟨rfl, hk2⟩
        go_wp2
        go_ret
        exact ⟨by rw [E.out, BAD.out (by first | rfl | trivial)]; rfl, below_thru hb hk2⟩
    · obtain rfl : k = n := by omega
      have Y := Lib.hid (show l.all ok = true from all_yes fun j x hj hx => HR.out j x (by rw [LN.out] at hj; exact hj) hx)
      go_wp2
      go_ret
      exact ⟨by rw [E.out, Y.out]; rfl, hbel⟩
theorem listLinkP (few most : Int) (K : FuncId) (eK : ∀ args w, (callFunc K args).run Tryz.prog w = .ok (.enter K args) w) (ok : Lk → Bool) (A : Option Addr) (n c : Nat) (l : List Lk) (w : World) (ha : Rs 2 w A n c (l.map Lk.vals))
    (RK : ∀ x ∈ l, ∀ W, Below w.heap.size w W → Calls Tryz.prog K #[.agg x.vals.toArray] W (RetV W (.bool (ok x)))) :
    Calls Tryz.prog 32 #[.slice A n c, .int .i64 few, .int .i64 most, .func (.func K) #[] #[]] w (RetV w (.bool (listB l few most ok))) := by
  have ln : l.length = n := by have := ha.len; simpa using this
  have mx : n ≤ 9223372036854775807 := Nat.le_trans ha.cap ha.max
  have E0 := Lib.hid (show listB l few most ok = (decide (few ≤ (n : Int)) && (decide ((n : Int) ≤ most) && l.all ok)) by unfold listB; rw [ln])
  have LN := Lib.hid ln
  clear ln
  by_cases h1 : (n : Int) < few
  · have d1 : decide ((n : Int) < few) = true := decide_eq_true h1
    have E := Lib.hid (show listB l few most ok = false by rw [E0.out, decide_eq_false (p := few ≤ (n : Int)) (by omega), Bool.false_and])
    clear E0 h1 ha RK
    go_enter Tryz.func32, Tryz.ntmps32
    go_wp2
    go_ret
    exact ⟨by rw [E.out]; rfl, Below.refl _ _⟩
  have d1 : decide ((n : Int) < few) = false := decide_eq_false h1
  by_cases h2 : most < (n : Int)
  · have d2 : decide (most < (n : Int)) = true := decide_eq_true h2
    have E := Lib.hid (show listB l few most ok = false by rw [E0.out, decide_eq_false (p := (n : Int) ≤ most) (by omega), Bool.false_and, Bool.and_false])
    clear E0 h1 h2 ha RK
    go_enter Tryz.func32, Tryz.ntmps32
    go_wp2
    go_ret
    exact ⟨by rw [E.out]; rfl, Below.refl _ _⟩
  have d2 : decide (most < (n : Int)) = false := decide_eq_false h2
  have E := Lib.hid (show listB l few most ok = l.all ok by rw [E0.out, decide_eq_true (p := few ≤ (n : Int)) (by omega), decide_eq_true (p := (n : Int) ≤ most) (by omega), Bool.true_and, Bool.true_and])
  clear E0 h1 h2
  have HA := Lib.hid ha
  have HK := Lib.hid RK
  clear ha RK
  go_enter Tryz.func32, Tryz.ntmps32
  go_wp2_with fail
  go_loopw [10, 23] (fun v10 v23 wr => ∃ k : Nat, k ≤ n ∧ v23 = .int .i64 k ∧ (∀ j x, j < k → l[j]? = some x → ok x = true) ∧ Below w.heap.size w wr) (fun _ v _ => n - (intOf v).toNat)
  case atStart => exact ⟨0, by omega, rfl, fun j x h => absurd h (by omega), Below.refl _ _⟩
  case round =>
    obtain ⟨k, hk, rfl, hR, hbel⟩ := hrel
    have HR := Lib.hid hR
    clear hR
    by_cases h4 : k < n
    · obtain ⟨x, hxx⟩ : ∃ x, l[k]? = some x := ⟨_, List.getElem?_eq_getElem (by rw [LN.out]; exact h4)⟩
      obtain ⟨g, o, ea0, hg, ca⟩ := (HA.out.below hbel).cells (by omega)
      subst ea0
      have STEP := Lib.hid (show ok x = true → ∀ j y, j < k + 1 → l[j]? = some y → ok y = true from fun h j y hj hy => by
        by_cases e : j = k
        · subst e; rw [hxx] at hy; cases hy; exact h
        · exact HR.out j y (by omega) hy)
      have BAD := Lib.hid (fun h : ok x = false => all_no hxx h)
      have RX := HK.out x (List.mem_of_getElem? hxx)
      have ra := row_at ca (show (l.map Lk.vals)[k]? = some (Lk.vals x) by rw [List.getElem?_map, hxx]; rfl)
      generalize ok x = b at *
      obtain ⟨ta, nm⟩ := x
      have x0 : wr.cell? ⟨g, o + k * 2, none⟩ = some (.string ta) := ra 0 _ rfl
      have x1 : wr.cell? ⟨g, o + k * 2 + 1, none⟩ = some (.string nm) := ra 1 _ rfl
      clear ca ra hxx
      have RX0 := fun X (h : Below w.heap.size w X) => (show Calls Tryz.prog K #[.agg #[.string ta, .string nm]] X (RetV X (.bool b)) from RX X h)
      clear RX
      go_upto_region 6 with (fail)
      have KB := blk_lit wr 59 [.string ta, .string nm]
      have hb := below_thru hbel (below_box wr (.cells #[.string ta, .string nm] 59))
      rw [show ([.string ta, .string nm] : List Value).toArray = #[.string ta, .string nm] from rfl] at KB
      generalize wr.alloc (.cells #[.string ta, .string nm] 59) = W at *
      generalize wr.heap.size = bb at *
      clear x0 x1 hg hbel
      obtain ⟨_, y0, y1, _⟩ := KB.two
      have RX := Lib.hid (RX0 W hb)
      clear RX0
      cases b with
      | true =>
        go_wp2_with fail
        refine RX.out.mono ?_
        clear RX
        rintro e W2 ⟨rfl, hk2⟩
        go_wp2
        go_roundw
        case rel => exact ⟨k + 1, by omega, int_eqS (by omega), STEP.out (by first | rfl | trivial), below_thru hb hk2⟩
        case measure => simp only [intOf]; omega
      | false =>
        go_wp2_with fail
        refine RX.out.mono ?_
        clear RX
        rintro e W2 ⟨rfl, hk2⟩
        go_wp2
        go_ret
        exact ⟨by rw [E.out, BAD.out (by first | rfl | trivial)]; rfl, below_thru hb hk2⟩
    · obtain rfl : k = n := by omega
      have Y := Lib.hid (show l.all ok = true from all_yes fun j x hj hx => HR.out j x (by rw [LN.out] at hj; exact hj) hx)
      go_wp2
      go_ret
      exact ⟨by rw [E.out, Y.out]; rfl, hbel⟩
theorem listZoneP (few most : Int) (K : FuncId) (eK : ∀ args w, (callFunc K args).run Tryz.prog w = .ok (.enter K args) w) (ok : Ze → Bool) (A : Option Addr) (n c : Nat) (l : List Ze) (w : World) (ha : Rs 2 w A n c (l.map Ze.vals))
    (RK : ∀ x ∈ l, ∀ W, Below w.heap.size w W → Calls Tryz.prog K #[.agg #[.string x.1.name, x.2.val]] W (RetV W (.bool (ok x)))) :
    Calls Tryz.prog 30 #[.slice A n c, .int .i64 few, .int .i64 most, .func (.func K) #[] #[]] w (RetV w (.bool (listB l few most ok))) := by
  have ln : l.length = n := by have := ha.len; simpa using this
  have mx : n ≤ 9223372036854775807 := Nat.le_trans ha.cap ha.max
  have E0 := Lib.hid (show listB l few most ok = (decide (few ≤ (n : Int)) && (decide ((n : Int) ≤ most) && l.all ok)) by unfold listB; rw [ln])
  have LN := Lib.hid ln
  clear ln
  by_cases h1 : (n : Int) < few
  · have d1 : decide ((n : Int) < few) = true := decide_eq_true h1
    have E := Lib.hid (show listB l few most ok = false by rw [E0.out, decide_eq_false (p := few ≤ (n : Int)) (by omega), Bool.false_and])
    clear E0 h1 ha RK
    go_enter Tryz.func30, Tryz.ntmps30
    go_wp2
    go_ret
    exact ⟨by rw [E.out]; rfl, Below.refl _ _⟩
  have d1 : decide ((n : Int) < few) = false := decide_eq_false h1
  by_cases h2 : most < (n : Int)
  · have d2 : decide (most < (n : Int)) = true := decide_eq_true h2
    have E := Lib.hid (show listB l few most ok = false by rw [E0.out, decide_eq_false (p := (n : Int) ≤ most) (by omega), Bool.false_and, Bool.and_false])
    clear E0 h1 h2 ha RK
    go_enter Tryz.func30, Tryz.ntmps30
    go_wp2
    go_ret
    exact ⟨by rw [E.out]; rfl, Below.refl _ _⟩
  have d2 : decide (most < (n : Int)) = false := decide_eq_false h2
  have E := Lib.hid (show listB l few most ok = l.all ok by rw [E0.out, decide_eq_true (p := few ≤ (n : Int)) (by omega), decide_eq_true (p := (n : Int) ≤ most) (by omega), Bool.true_and, Bool.true_and])
  clear E0 h1 h2
  have HA := Lib.hid ha
  have HK := Lib.hid RK
  clear ha RK
  go_enter Tryz.func30, Tryz.ntmps30
  go_wp2_with fail
  go_loopw [10, 23] (fun v10 v23 wr => ∃ k : Nat, k ≤ n ∧ v23 = .int .i64 k ∧ (∀ j x, j < k → l[j]? = some x → ok x = true) ∧ Below w.heap.size w wr) (fun _ v _ => n - (intOf v).toNat)
  case atStart => exact ⟨0, by omega, rfl, fun j x h => absurd h (by omega), Below.refl _ _⟩
  case round =>
    obtain ⟨k, hk, rfl, hR, hbel⟩ := hrel
    have HR := Lib.hid hR
    clear hR
    by_cases h4 : k < n
    · obtain ⟨x, hxx⟩ : ∃ x, l[k]? = some x := ⟨_, List.getElem?_eq_getElem (by rw [LN.out]; exact h4)⟩
      obtain ⟨g, o, ea0, hg, ca⟩ := (HA.out.below hbel).cells (by omega)
      subst ea0
      have STEP := Lib.hid (show ok x = true → ∀ j y, j < k + 1 → l[j]? = some y → ok y = true from fun h j y hj hy => by
        by_cases e : j = k
        · subst e; rw [hxx] at hy; cases hy; exact h
        · exact HR.out j y (by omega) hy)
      have BAD := Lib.hid (fun h : ok x = false => all_no hxx h)
      have RX := HK.out x (List.mem_of_getElem? hxx)
      have ra := row_at ca (show (l.map Ze.vals)[k]? = some (Ze.vals x) by rw [List.getElem?_map, hxx]; rfl)
      generalize ok x = b at *
      obtain ⟨⟨nm, es⟩, ⟨ea, en, ec⟩⟩ := x
      have x0 : wr.cell? ⟨g, o + k * 2, none⟩ = some (.string nm) := ra 0 _ rfl
      have x1 : wr.cell? ⟨g, o + k * 2 + 1, none⟩ = some (.slice ea en ec) := ra 1 _ rfl
      clear ca ra hxx
      have RX0 := fun X (h : Below w.heap.size w X) => (show Calls Tryz.prog K #[.agg #[.string nm, .slice ea en ec]] X (RetV X (.bool b)) from RX X h)
      clear RX
      go_upto_region 6 with (fail)
      have KB := blk_lit wr 55 [.string nm, .slice ea en ec]
      have hb := below_thru hbel (below_box wr (.cells #[.string nm, .slice ea en ec] 55))
      rw [show ([.string nm, .slice ea en ec] : List Value).toArray = #[.string nm, .slice ea en ec] from rfl] at KB
      generalize wr.alloc (.cells #[.string nm, .slice ea en ec] 55) = W at *
      generalize wr.heap.size = bb at *
      clear x0 x1 hg hbel
      obtain ⟨_, y0, y1, _⟩ := KB.two
      have RX := Lib.hid (RX0 W hb)
      clear RX0
      cases b with
      | true =>
        go_wp2_with fail
        refine RX.out.mono ?_
        clear RX
        rintro e W2 ⟨rfl, hk2⟩
        go_wp2
        go_roundw
        case rel => exact ⟨k + 1, by omega, int_eqS (by omega), STEP.out (by first | rfl | trivial), below_thru hb hk2⟩
        case measure => simp only [intOf]; omega
      | false =>
        go_wp2_with fail
        refine RX.out.mono ?_
        clear RX
        rintro e W2 ⟨rfl, hk2⟩
        go_wp2
        go_ret
        exact ⟨by rw [E.out, BAD.out (by first | rfl | trivial)]; rfl, below_thru hb hk2⟩
    · obtain rfl : k = n := by omega
      have Y := Lib.hid (show l.all ok = true from all_yes fun j x hj hx => HR.out j x (by rw [LN.out] at hj; exact hj) hx)
      go_wp2
      go_ret
      exact ⟨by rw [E.out, Y.out]; rfl, hbel⟩
theorem tilC_at : ∀ {l : List Er}, tilOk l → ∀ (t : Nat) (x : Er), l[t]? = some x → x.til = decide (t + 1 < l.length)
  | [], h, _, _, _ => h.elim
  | [y], h, t, x, e => by
    obtain rfl : t = 0 := by
      have := (List.getElem?_eq_some_iff.1 e).1
      simp at this; omega
    cases e
    exact h
  | y :: z :: r, h, t, x, e => by
    cases t with
    | zero => cases e; rw [h.1]; simp
    | succ t =>
      rw [tilC_at h.2 t x e]
      simp
theorem tilC_of : ∀ {l : List Er}, l ≠ [] → (∀ (t : Nat) (x : Er), l[t]? = some x → x.til = decide (t + 1 < l.length)) → tilOk l
  | [], h, _ => absurd rfl h
  | [y], _, h => h 0 y rfl
  | y :: z :: r, _, h => ⟨by rw [h 0 y rfl]; simp, tilC_of (by simp) (fun t x e => by rw [h (t + 1) x e]; simp)⟩
noncomputable def znOk (z : Zn) : Bool := @decide z.ok (Classical.propDecidable _)
theorem zn_yes {z : Zn} (h : z.ok) : znOk z = true := @decide_eq_true _ (Classical.propDecidable _) h
theorem zn_no {z : Zn} (h : ¬ z.ok) : znOk z = false := @decide_eq_false _ (Classical.propDecidable _) h
theorem er_yes {x : Er} : erOk x = true ↔ x.ok := @decide_eq_true_iff _ (Classical.propDecidable _)
theorem rl_iff {x : Rl} : rlOk x = true ↔ x.ok := @decide_eq_true_iff _ (Classical.propDecidable _)
theorem zn_iff {x : Zn} : znOk x = true ↔ x.ok := @decide_eq_true_iff _ (Classical.propDecidable _)
theorem lk_iff {x : Lk} : lkOk x = true ↔ x.ok := by unfold lkOk; rw [Bool.and_eq_true]; exact Iff.rfl
theorem list_iff {α : Type} {l : List α} {few most : Int} {ok : α → Bool} : listB l few most ok = true ↔ few ≤ (l.length : Int) ∧ (l.length : Int) ≤ most ∧ ∀ x ∈ l, ok x = true := by
  unfold listB
  rw [Bool.and_eq_true, Bool.and_eq_true, decide_eq_true_iff, decide_eq_true_iff, List.all_eq_true]
theorem rz_core (nm : ByteArray) (es : List Er) (ea : Option Addr) (en ec : Nat) (w : World) (a b z : Bool) (hm : Rs 13 w ea en ec (es.map Er.vals))
    (HP : Hid (∀ W, Calls Tryz.prog 20 #[.string nm] W (RetV W (.bool a))))
    (HL : Hid (∀ W, Below w.heap.size w W → Calls Tryz.prog 64 #[.slice ea en ec, .int .i64 1, .int .i64 40, .func (.func 65) #[] #[]] W (RetV W (.bool b))))
    (Z1 : Hid (a = false → z = false)) (Z2 : Hid (b = false → z = false)) (Z3 : Hid (a = true → b = true → (∀ (t : Nat) (x : Er), es[t]? = some x → x.til = decide (t + 1 < en)) → z = true)) (Z4 : Hid (∀ (t : Nat) (x : Er), es[t]? = some x → x.til = (!decide (t + 1 < en)) → z = false)) :
    Calls Tryz.prog 31 #[.agg #[.string nm, .slice ea en ec]] w (RetV w (.bool z)) := by
  have mx : en ≤ 9223372036854775807 := Nat.le_trans hm.cap hm.max
  have LN := Lib.hid (show es.length = en by have := hm.len; simpa using this)
  have HA := Lib.hid hm
  clear hm
  cases a with
  | false =>
    clear HL Z2 Z3 Z4
    go_enter Tryz.func31, Tryz.ntmps31
    go_upto_region 1 with (fail)
    have KB := blk_lit w 55 [.string nm, .slice ea en ec]
    have hb := below_box w (.cells #[.string nm, .slice ea en ec] 55)
    rw [show ([.string nm, .slice ea en ec] : List Value).toArray = #[.string nm, .slice ea en ec] from rfl] at KB
    have sz : w.heap.size < (w.alloc (.cells #[.string nm, .slice ea en ec] 55)).heap.size := by simp
    generalize w.alloc (.cells #[.string nm, .slice ea en ec] 55) = W at *
    obtain ⟨_, x0, x1, _⟩ := KB.two
    go_wp2_with (go_at_call 20; refine (HP.out _).mono ?_; clear HP; rintro e w' ⟨rfl, hk⟩; replace hb := below_thru hb hk; replace KB := KB.below hk; clear hk x0 x1; obtain ⟨_, x0, x1, _⟩ := KB.two)
    go_wp2
    go_ret
    exact ⟨by rw [Z1.out (by first | rfl | trivial)]; rfl, hb⟩
  | true =>
  cases b with
  | false =>
    clear Z1 Z3 Z4
    go_enter Tryz.func31, Tryz.ntmps31
    go_upto_region 1 with (fail)
    have KB := blk_lit w 55 [.string nm, .slice ea en ec]
    have hb := below_box w (.cells #[.string nm, .slice ea en ec] 55)
    rw [show ([.string nm, .slice ea en ec] : List Value).toArray = #[.string nm, .slice ea en ec] from rfl] at KB
    have sz : w.heap.size < (w.alloc (.cells #[.string nm, .slice ea en ec] 55)).heap.size := by simp
    generalize w.alloc (.cells #[.string nm, .slice ea en ec] 55) = W at *
    obtain ⟨_, x0, x1, _⟩ := KB.two
    go_wp2_with (go_at_call 20; refine (HP.out _).mono ?_; clear HP; rintro e w' ⟨rfl, hk⟩; replace hb := below_thru hb hk; replace KB := KB.below hk; clear hk x0 x1; obtain ⟨_, x0, x1, _⟩ := KB.two)
    go_wp2_with (go_at_call 64; refine (HL.out _ hb).mono ?_; clear HL; rintro e w2 ⟨rfl, hk⟩; replace hb := below_thru hb hk; replace KB := KB.below hk; clear hk x0 x1; obtain ⟨_, x0, x1, _⟩ := KB.two)
    go_wp2
    go_ret
    exact ⟨by rw [Z2.out (by first | rfl | trivial)]; rfl, hb⟩
  | true =>
    clear Z1 Z2
    go_enter Tryz.func31, Tryz.ntmps31
    go_upto_region 1 with (fail)
    have KB := blk_lit w 55 [.string nm, .slice ea en ec]
    have hb := below_box w (.cells #[.string nm, .slice ea en ec] 55)
    rw [show ([.string nm, .slice ea en ec] : List Value).toArray = #[.string nm, .slice ea en ec] from rfl] at KB
    have sz : w.heap.size < (w.alloc (.cells #[.string nm, .slice ea en ec] 55)).heap.size := by simp
    generalize w.alloc (.cells #[.string nm, .slice ea en ec] 55) = W at *
    obtain ⟨_, x0, x1, _⟩ := KB.two
    go_wp2_with (go_at_call 20; refine (HP.out _).mono ?_; clear HP; rintro e w' ⟨rfl, hk⟩; replace hb := below_thru hb hk; replace KB := KB.below hk; clear hk x0 x1; obtain ⟨_, x0, x1, _⟩ := KB.two)
    go_wp2_with (go_at_call 64; refine (HL.out _ hb).mono ?_; clear HL; rintro e w2 ⟨rfl, hk⟩; replace hb := below_thru hb hk; replace KB := KB.below hk; clear hk x0 x1; obtain ⟨_, x0, x1, _⟩ := KB.two)
    go_wp2_with fail
    rename_i W1 _
    go_loopw [3, 4, 18] (fun v3 v4 v18 wr => ∃ k : Nat, k ≤ en ∧ v18 = .int .i64 k ∧ (∀ (j : Nat) (x : Er), j < k → es[j]? = some x → x.til = decide (j + 1 < en)) ∧ Blk wr w.heap.size [.string nm, .slice ea en ec] ∧ Below w.heap.size w wr) (fun _ _ v _ => en - (intOf v).toNat)
    case atStart => exact ⟨0, by omega, rfl, fun j x h => absurd h (by omega), KB, hb⟩
    case round =>
    clear KB hb x0 x1
    obtain ⟨k, hk, rfl, hR, KB, hbel⟩ := hrel
    have HR := Lib.hid hR
    clear hR
    obtain ⟨ltB, b0, b1, _⟩ := KB.two
    by_cases h4 : k < en
    · obtain ⟨x, hxx⟩ : ∃ x, es[k]? = some x := ⟨_, List.getElem?_eq_getElem (by rw [LN.out]; exact h4)⟩
      obtain ⟨g, o, ea0, hg, ca⟩ := (HA.out.below hbel).cells (by omega)
      subst ea0
      have STEP := Lib.hid (show x.til = decide (k + 1 < en) → ∀ (j : Nat) (y : Er), j < k + 1 → es[j]? = some y → y.til = decide (j + 1 < en) from fun h j y hj hy => by
        by_cases e : j = k
        · subst e; rw [hxx] at hy; cases hy; exact h
        · exact HR.out j y (by omega) hy)
      have BAD := Lib.hid (Z4.out k x hxx)
      have ra := row_at ca (show (es.map Er.vals)[k]? = some (Er.vals x) by rw [List.getElem?_map, hxx]; rfl)
      obtain ⟨off, kind, save, rls, fm, til, year, ⟨mo, ki, wd, da, ti, re⟩⟩ := x
      simp only at STEP BAD
      have x0 : wr.cell? ⟨g, o + k * 13, none⟩ = some (.int .i64 off) := ra 0 _ rfl
      have x1 : wr.cell? ⟨g, o + k * 13 + 1, none⟩ = some (.int .i64 kind) := ra 1 _ rfl
      have x2 : wr.cell? ⟨g, o + k * 13 + 2, none⟩ = some (.int .i64 save) := ra 2 _ rfl
      have x3 : wr.cell? ⟨g, o + k * 13 + 3, none⟩ = some (.string rls) := ra 3 _ rfl
      have x4 : wr.cell? ⟨g, o + k * 13 + 4, none⟩ = some (.string fm) := ra 4 _ rfl
      have x5 : wr.cell? ⟨g, o + k * 13 + 5, none⟩ = some (.bool til) := ra 5 _ rfl
      have x6 : wr.cell? ⟨g, o + k * 13 + 6, none⟩ = some (.int .i64 year) := ra 6 _ rfl
      have x7 : wr.cell? ⟨g, o + k * 13 + 7, none⟩ = some (.int .i64 mo) := ra 7 _ rfl
      have x8 : wr.cell? ⟨g, o + k * 13 + 8, none⟩ = some (.int .i64 ki) := ra 8 _ rfl
      have x9 : wr.cell? ⟨g, o + k * 13 + 9, none⟩ = some (.int .i64 wd) := ra 9 _ rfl
      have x10 : wr.cell? ⟨g, o + k * 13 + 10, none⟩ = some (.int .i64 da) := ra 10 _ rfl
      have x11 : wr.cell? ⟨g, o + k * 13 + 11, none⟩ = some (.int .i64 ti) := ra 11 _ rfl
      have x12 : wr.cell? ⟨g, o + k * 13 + 12, none⟩ = some (.int .i64 re) := ra 12 _ rfl
      clear ca ra hxx
      go_upto_region 6 with (fail)
      have KE := blk_lit wr 52 [.int .i64 off, .int .i64 kind, .int .i64 save, .string rls, .string fm, .bool til, .int .i64 year, .int .i64 mo, .int .i64 ki, .int .i64 wd, .int .i64 da, .int .i64 ti, .int .i64 re]
      have hk1 := below_box wr (.cells #[.int .i64 off, .int .i64 kind, .int .i64 save, .string rls, .string fm, .bool til, .int .i64 year, .int .i64 mo, .int .i64 ki, .int .i64 wd, .int .i64 da, .int .i64 ti, .int .i64 re] 52)
      replace hbel := below_thru hbel hk1
      replace KB := KB.below hk1
      rw [show ([.int .i64 off, .int .i64 kind, .int .i64 save, .string rls, .string fm, .bool til, .int .i64 year, .int .i64 mo, .int .i64 ki, .int .i64 wd, .int .i64 da, .int .i64 ti, .int .i64 re] : List Value).toArray = #[.int .i64 off, .int .i64 kind, .int .i64 save, .string rls, .string fm, .bool til, .int .i64 year, .int .i64 mo, .int .i64 ki, .int .i64 wd, .int .i64 da, .int .i64 ti, .int .i64 re] from rfl] at KE
      generalize wr.alloc (.cells #[.int .i64 off, .int .i64 kind, .int .i64 save, .string rls, .string fm, .bool til, .int .i64 year, .int .i64 mo, .int .i64 ki, .int .i64 wd, .int .i64 da, .int .i64 ti, .int .i64 re] 52) = W at *
      generalize wr.heap.size = bb at *
      clear x0 x1 x2 x3 x4 x5 x6 x7 x8 x9 x10 x11 x12 hg hk1 b0 b1 ltB
      obtain ⟨y0, y1, y2, y3, y4, y5, y6, y7, y8, y9, y10, y11, y12⟩ := KE.thirteenC
      obtain ⟨_, b0, b1, _⟩ := KB.two
      have hs : IntKind.i64.wrap ((en : Int) - 1) = (en : Int) - 1 := IntWalk.i64_in _ (by omega)
      by_cases h5 : k + 1 < en
      · have d5 : decide ((k : Int) < (en : Int) - 1) = true := decide_eq_true (by omega)
        have ST2 := Lib.hid (fun h : til = true => STEP.out (by rw [h, decide_eq_true h5]))
        have BA2 := Lib.hid (fun h : til = false => BAD.out (by rw [h, decide_eq_true h5]; rfl))
        clear STEP BAD h5
        cases til with
        | true =>
          go_wp2_with fail
          go_roundw
          case rel => exact ⟨k + 1, by omega, int_eqS (by omega), ST2.out (by first | rfl | trivial), KB, hbel⟩
          case measure => simp only [intOf]; omega
        | false =>
          go_wp2_with fail
          go_ret
          exact ⟨by rw [BA2.out (by first | rfl | trivial)]; rfl, hbel⟩
      · have d5 : decide ((k : Int) < (en : Int) - 1) = false := decide_eq_false (by omega)
        have ST2 := Lib.hid (fun h : til = false => STEP.out (by rw [h, decide_eq_false h5]))
        have BA2 := Lib.hid (fun h : til = true => BAD.out (by rw [h, decide_eq_false h5]; rfl))
        clear STEP BAD h5
        cases til with
        | false =>
          go_wp2_with fail
          go_roundw
          case rel => exact ⟨k + 1, by omega, int_eqS (by omega), ST2.out (by first | rfl | trivial), KB, hbel⟩
          case measure => simp only [intOf]; omega
        | true =>
          go_wp2_with fail
          go_ret
          exact ⟨by rw [BA2.out (by first | rfl | trivial)]; rfl, hbel⟩
    · obtain rfl : k = en := by omega
      have Y := Lib.hid (Z3.out (by first | rfl | trivial) (by first | rfl | trivial) fun t x e => HR.out t x (by rw [← LN.out]; exact (List.getElem?_eq_some_iff.1 e).1) e)
      go_wp2
      go_ret
      exact ⟨by rw [Y.out]; rfl, hbel⟩
theorem rightZoneP (p : Ze) (hz : p.1.in64) (w : World) (hm : eraRows w p) : Calls Tryz.prog 31 #[.agg #[.string p.1.name, p.2.val]] w (RetV w (.bool (znOk p.1))) := by
  obtain ⟨⟨nm, es⟩, ⟨ea, en, ec⟩⟩ := p
  have hm' : Rs 13 w ea en ec (es.map Er.vals) := hm
  have le : es.length = en := by have := hm'.len; simpa using this
  refine rz_core nm es ea en ec w (placeB nm) (listB es 1 40 erOk) _ hm' (Lib.hid fun W => placeP nm hz.1 W)
    (Lib.hid fun W hb => listEraP 1 40 65 (enters_of Tryz.func65 (by kernel_rfl) rfl) erOk ea en ec es W (hm'.below hb) (fun x hx W' _ => rightEraP x (hz.2.2 x hx) W'))
    (Lib.hid fun h => zn_no fun k => ?_) (Lib.hid fun h => zn_no fun k => ?_) (Lib.hid fun h1 h2 h3 => zn_yes ?_) (Lib.hid fun t x e h => zn_no fun k => ?_)
  · have : placeB nm = true := k.1
    rw [h] at this; cases this
  · have : listB es 1 40 erOk = true := list_iff.2 ⟨by
      have := k.2.2.2
      cases es with
      | nil => exact this.elim
      | cons _ _ => simp; omega, by have : es.length ≤ 40 := k.2.1; omega, fun x hx => er_yes.2 (k.2.2.1 x hx)⟩
    rw [h] at this; cases this
  · obtain ⟨l1, l2, l3⟩ := list_iff.1 h2
    refine ⟨h1, by show es.length ≤ 40; omega, fun x hx => er_yes.1 (l3 x hx), tilC_of (fun c => ?_) (by rw [le]; exact h3)⟩
    have c' : es = [] := c
    rw [c'] at l1
    simp at l1
  · have := tilC_at k.2.2.2 t x e
    simp only at this
    rw [le, h] at this
    generalize decide (t + 1 < en) = q at this
    cases q <;> cases this
theorem rsrc_1 (A B C : Option Addr) (n c m d q e : Nat) (w : World)
    (H1 : Hid (∀ W, Below w.heap.size w W → Calls Tryz.prog 28 #[.slice A n c, .int .i64 0, .int .i64 200, .func (.func 29) #[] #[]] W (RetV W (.bool false)))) :
    Calls Tryz.prog 16 #[.agg #[.slice A n c, .slice B m d, .slice C q e]] w (RetV w (.bool false)) := by
  go_enter Tryz.func16, Tryz.ntmps16
  go_upto_region 1 with (fail)
  have KB := blk_lit w 26 [.slice A n c, .slice B m d, .slice C q e]
  have hb := below_box w (.cells #[.slice A n c, .slice B m d, .slice C q e] 26)
  rw [show ([.slice A n c, .slice B m d, .slice C q e] : List Value).toArray = #[.slice A n c, .slice B m d, .slice C q e] from rfl] at KB
  generalize w.alloc (.cells #[.slice A n c, .slice B m d, .slice C q e] 26) = W at *
  obtain ⟨_, x0, x1, x2, _⟩ := KB.three
  go_wp2_with (go_at_call 28; refine (H1.out _ hb).mono ?_; clear H1; rintro e w2 ⟨rfl, hk⟩; replace hb := below_thru hb hk; replace KB := KB.below hk; clear hk x0 x1 x2; obtain ⟨_, x0, x1, x2, _⟩ := KB.three)
  go_wp2
  go_ret
  exact ⟨rfl, hb⟩
theorem rsrc_2 (A B C : Option Addr) (n c m d q e : Nat) (w : World)
    (H1 : Hid (∀ W, Below w.heap.size w W → Calls Tryz.prog 28 #[.slice A n c, .int .i64 0, .int .i64 200, .func (.func 29) #[] #[]] W (RetV W (.bool true)))) (H2 : Hid (∀ W, Below w.heap.size w W → Calls Tryz.prog 30 #[.slice B m d, .int .i64 0, .int .i64 50, .func (.func 31) #[] #[]] W (RetV W (.bool false)))) :
    Calls Tryz.prog 16 #[.agg #[.slice A n c, .slice B m d, .slice C q e]] w (RetV w (.bool false)) := by
  go_enter Tryz.func16, Tryz.ntmps16
  go_upto_region 1 with (fail)
  have KB := blk_lit w 26 [.slice A n c, .slice B m d, .slice C q e]
  have hb := below_box w (.cells #[.slice A n c, .slice B m d, .slice C q e] 26)
  rw [show ([.slice A n c, .slice B m d, .slice C q e] : List Value).toArray = #[.slice A n c, .slice B m d, .slice C q e] from rfl] at KB
  generalize w.alloc (.cells #[.slice A n c, .slice B m d, .slice C q e] 26) = W at *
  obtain ⟨_, x0, x1, x2, _⟩ := KB.three
  go_wp2_with (go_at_call 28; refine (H1.out _ hb).mono ?_; clear H1; rintro e w2 ⟨rfl, hk⟩; replace hb := below_thru hb hk; replace KB := KB.below hk; clear hk x0 x1 x2; obtain ⟨_, x0, x1, x2, _⟩ := KB.three)
  go_wp2_with (go_at_call 30; refine (H2.out _ hb).mono ?_; clear H2; rintro e w2 ⟨rfl, hk⟩; replace hb := below_thru hb hk; replace KB := KB.below hk; clear hk x0 x1 x2; obtain ⟨_, x0, x1, x2, _⟩ := KB.three)
  go_wp2
  go_ret
  exact ⟨rfl, hb⟩
theorem rsrc_3 (A B C : Option Addr) (n c m d q e : Nat) (w : World) (f : Bool)
    (H1 : Hid (∀ W, Below w.heap.size w W → Calls Tryz.prog 28 #[.slice A n c, .int .i64 0, .int .i64 200, .func (.func 29) #[] #[]] W (RetV W (.bool true)))) (H2 : Hid (∀ W, Below w.heap.size w W → Calls Tryz.prog 30 #[.slice B m d, .int .i64 0, .int .i64 50, .func (.func 31) #[] #[]] W (RetV W (.bool true)))) (H3 : Hid (∀ W, Below w.heap.size w W → Calls Tryz.prog 32 #[.slice C q e, .int .i64 0, .int .i64 100, .func (.func 33) #[] #[]] W (RetV W (.bool f)))) :
    Calls Tryz.prog 16 #[.agg #[.slice A n c, .slice B m d, .slice C q e]] w (RetV w (.bool f)) := by
  go_enter Tryz.func16, Tryz.ntmps16
  go_upto_region 1 with (fail)
  have KB := blk_lit w 26 [.slice A n c, .slice B m d, .slice C q e]
  have hb := below_box w (.cells #[.slice A n c, .slice B m d, .slice C q e] 26)
  rw [show ([.slice A n c, .slice B m d, .slice C q e] : List Value).toArray = #[.slice A n c, .slice B m d, .slice C q e] from rfl] at KB
  generalize w.alloc (.cells #[.slice A n c, .slice B m d, .slice C q e] 26) = W at *
  obtain ⟨_, x0, x1, x2, _⟩ := KB.three
  go_wp2_with (go_at_call 28; refine (H1.out _ hb).mono ?_; clear H1; rintro e w2 ⟨rfl, hk⟩; replace hb := below_thru hb hk; replace KB := KB.below hk; clear hk x0 x1 x2; obtain ⟨_, x0, x1, x2, _⟩ := KB.three)
  go_wp2_with (go_at_call 30; refine (H2.out _ hb).mono ?_; clear H2; rintro e w2 ⟨rfl, hk⟩; replace hb := below_thru hb hk; replace KB := KB.below hk; clear hk x0 x1 x2; obtain ⟨_, x0, x1, x2, _⟩ := KB.three)
  go_wp2_with (go_at_call 32; refine (H3.out _ hb).mono ?_; clear H3; rintro e w2 ⟨rfl, hk⟩; replace hb := below_thru hb hk; replace KB := KB.below hk; clear hk x0 x1 x2; obtain ⟨_, x0, x1, x2, _⟩ := KB.three)
  go_wp2
  go_ret
  exact ⟨rfl, hb⟩
theorem okSr_is (S : Sr) (ze : List Ze) (h : ze.map (·.1) = S.zones) : okSr S = (listB S.rules 0 200 rlOk && (listB ze 0 50 (fun p => znOk p.1) && listB S.links 0 100 lkOk)) := by
  rw [Bool.eq_iff_iff, Bool.and_eq_true, Bool.and_eq_true, list_iff, list_iff, list_iff]
  unfold okSr
  rw [@decide_eq_true_iff _ (Classical.propDecidable _)]
  have hl : ze.length = S.zones.length := by rw [← h, List.length_map]
  constructor
  · rintro ⟨k1, k2, k3, k4, k5, k6⟩
    exact ⟨⟨by omega, by omega, fun x hx => rl_iff.2 (k4 x hx)⟩, ⟨by omega, by omega, fun p hp => zn_iff.2 (k5 p.1 (by rw [← h]; exact List.mem_map.2 ⟨p, hp, rfl⟩))⟩, by omega, by omega, fun x hx => lk_iff.2 (k6 x hx)⟩
  · rintro ⟨⟨_, k1, k4⟩, ⟨_, k2, k5⟩, _, k3, k6⟩
    refine ⟨by omega, by omega, by omega, fun x hx => rl_iff.1 (k4 x hx), fun z hz => ?_, fun x hx => lk_iff.1 (k6 x hx)⟩
    rw [← h] at hz
    obtain ⟨p, hp, rfl⟩ := List.mem_map.1 hz
    exact zn_iff.1 (k5 p hp)
theorem rightSrcP (S : Sr) (a b c : Hd) (ze : List Ze) (w : World) (hv : SrcV w S a b c ze) (hx : S.in64) : Calls Tryz.prog 16 #[.agg #[a.val, b.val, c.val]] w (RetV w (.bool (okSr S))) := by
  obtain ⟨A, n, c1⟩ := a
  obtain ⟨B, m, d⟩ := b
  obtain ⟨C, q, e⟩ := c
  rw [okSr_is S ze hv.all]
  have h1 := fun (W : World) (hb : Below w.heap.size w W) => listRuleP 0 200 29 (enters_of Tryz.func29 (by kernel_rfl) rfl) rlOk A n c1 S.rules W (hv.below hb).rules (fun x hx' W' _ => rightRuleP x (hx.1 x hx') W')
  have h2 := fun (W : World) (hb : Below w.heap.size w W) => listZoneP 0 50 31 (enters_of Tryz.func31 (by kernel_rfl) rfl) (fun p => znOk p.1) B m d ze W (hv.below hb).zones (fun p hp W' hb' => rightZoneP p (hx.2.1 p.1 (by rw [← hv.all]; exact List.mem_map.2 ⟨p, hp, rfl⟩)) W' (((hv.below hb).eras p hp).below hb'))
  have h3 := fun (W : World) (hb : Below w.heap.size w W) => listLinkP 0 100 33 (enters_of Tryz.func33 (by kernel_rfl) rfl) lkOk C q e S.links W (hv.below hb).links (fun x hx' W' _ => rightLinkP x (hx.2.2 x hx') W')
  show Calls _ _ #[.agg #[.slice A n c1, .slice B m d, .slice C q e]] w _
  generalize listB S.rules 0 200 rlOk = k1 at *
  generalize listB ze 0 50 (fun p => znOk p.1) = k2 at *
  generalize listB S.links 0 100 lkOk = k3 at *
  cases k1 with
  | false => rw [Bool.false_and]; exact rsrc_1 A B C n c1 m d q e w (Lib.hid h1)
  | true =>
  rw [Bool.true_and]
  cases k2 with
  | false => rw [Bool.false_and]; exact rsrc_2 A B C n c1 m d q e w (Lib.hid h1) (Lib.hid h2)
  | true => rw [Bool.true_and]; exact rsrc_3 A B C n c1 m d q e w k3 (Lib.hid h1) (Lib.hid h2) (Lib.hid h3)
theorem pLaysM171 : Go.Proofs.LaysM.n171 Tryz.prog ylays171_ren := { ylays171 with
  i0 := by kernel_rfl
  i2 := by kernel_rfl
  i3 := by kernel_rfl
  i4 := by kernel_rfl
  i5 := by kernel_rfl
  i9 := by kernel_rfl
  i20 := by kernel_rfl
  i37 := by kernel_rfl
  i46 := by kernel_rfl
  i51 := by kernel_rfl
  i53 := by kernel_rfl
  i171 := by kernel_rfl
  i173 := by kernel_rfl
  i212 := by kernel_rfl
  i232 := by kernel_rfl
  i233 := by kernel_rfl
  m17 := by kernel_rfl
  m18 := by kernel_rfl
  m19 := by kernel_rfl }
theorem below_grow (w : World) (k : Nat) (os : Array Obj) : Below w.heap.size w (Go.Sort.grow (w.drewN k) os) :=
  below_thru (below_drewN (Below.refl _ _) k) ⟨rfl, rfl, rfl, by simp [Go.Sort.grow], fun j hj => Go.Sort.heap_grow_old (w.drewN k) os hj⟩
theorem itoaY (n : Int) (h0 : 0 ≤ n) (h1 : n ≤ 1000000) (w : World) (T : Pow10 w) : Calls Tryz.prog 85 #[.int .i64 n] w (RetV w (.string (yearT n))) := by
  refine (Any.strconv_Itoa pLaysM171 n (by omega) (by omega) w T).mono ?_
  rintro e w' ⟨rfl, k, os, rfl⟩
  refine ⟨?_, below_grow w k os⟩
  unfold yearT
  rw [← decB_is]
  unfold Lib.itoa
  rw [if_neg (by omega)]
theorem wl_a (nm le : ByteArray) (fr last mo ki wd da ti re save : Int) (l0 : (last == fr) = true) (w : World) : Calls Tryz.prog 86 #[.agg #[.string nm, .int .i64 fr, .int .i64 last, .int .i64 mo, .int .i64 ki, .int .i64 wd, .int .i64 da, .int .i64 ti, .int .i64 re, .int .i64 save, .string le]] w (RetV w (.string onlyT)) := by
  go_enter Tryz.func86, Tryz.ntmps86
  go_upto_region 1 with (fail)
  have KB := blk_lit w 57 [.string nm, .int .i64 fr, .int .i64 last, .int .i64 mo, .int .i64 ki, .int .i64 wd, .int .i64 da, .int .i64 ti, .int .i64 re, .int .i64 save, .string le]
  have hb := below_box w (.cells #[.string nm, .int .i64 fr, .int .i64 last, .int .i64 mo, .int .i64 ki, .int .i64 wd, .int .i64 da, .int .i64 ti, .int .i64 re, .int .i64 save, .string le] 57)
  rw [show ([.string nm, .int .i64 fr, .int .i64 last, .int .i64 mo, .int .i64 ki, .int .i64 wd, .int .i64 da, .int .i64 ti, .int .i64 re, .int .i64 save, .string le] : List Value).toArray = #[.string nm, .int .i64 fr, .int .i64 last, .int .i64 mo, .int .i64 ki, .int .i64 wd, .int .i64 da, .int .i64 ti, .int .i64 re, .int .i64 save, .string le] from rfl] at KB
  generalize w.alloc (.cells #[.string nm, .int .i64 fr, .int .i64 last, .int .i64 mo, .int .i64 ki, .int .i64 wd, .int .i64 da, .int .i64 ti, .int .i64 re, .int .i64 save, .string le] 57) = W at *
  obtain ⟨x0, x1, x2, x3, x4, x5, x6, x7, x8, x9, x10⟩ := KB.elevenC
  go_wp2
  go_ret
  exact ⟨by first | rfl | simp, hb⟩
theorem wl_b (nm le : ByteArray) (fr last mo ki wd da ti re save : Int) (l0 : (last == fr) = false) (l1 : (last == 1000000) = true) (w : World) : Calls Tryz.prog 86 #[.agg #[.string nm, .int .i64 fr, .int .i64 last, .int .i64 mo, .int .i64 ki, .int .i64 wd, .int .i64 da, .int .i64 ti, .int .i64 re, .int .i64 save, .string le]] w (RetV w (.string maxT)) := by
  go_enter Tryz.func86, Tryz.ntmps86
  go_upto_region 1 with (fail)
  have KB := blk_lit w 57 [.string nm, .int .i64 fr, .int .i64 last, .int .i64 mo, .int .i64 ki, .int .i64 wd, .int .i64 da, .int .i64 ti, .int .i64 re, .int .i64 save, .string le]
  have hb := below_box w (.cells #[.string nm, .int .i64 fr, .int .i64 last, .int .i64 mo, .int .i64 ki, .int .i64 wd, .int .i64 da, .int .i64 ti, .int .i64 re, .int .i64 save, .string le] 57)
  rw [show ([.string nm, .int .i64 fr, .int .i64 last, .int .i64 mo, .int .i64 ki, .int .i64 wd, .int .i64 da, .int .i64 ti, .int .i64 re, .int .i64 save, .string le] : List Value).toArray = #[.string nm, .int .i64 fr, .int .i64 last, .int .i64 mo, .int .i64 ki, .int .i64 wd, .int .i64 da, .int .i64 ti, .int .i64 re, .int .i64 save, .string le] from rfl] at KB
  generalize w.alloc (.cells #[.string nm, .int .i64 fr, .int .i64 last, .int .i64 mo, .int .i64 ki, .int .i64 wd, .int .i64 da, .int .i64 ti, .int .i64 re, .int .i64 save, .string le] 57) = W at *
  obtain ⟨x0, x1, x2, x3, x4, x5, x6, x7, x8, x9, x10⟩ := KB.elevenC
  go_wp2
  go_ret
  exact ⟨by first | rfl | simp, hb⟩
theorem wl_c (nm le : ByteArray) (fr last mo ki wd da ti re save : Int) (l0 : (last == fr) = false) (l1 : (last == 1000000) = false) (t : ByteArray) (HI : Hid (∀ W, MomP W → Calls Tryz.prog 85 #[.int .i64 last] W (RetV W (.string t)))) (w : World) (M : MomP w) : Calls Tryz.prog 86 #[.agg #[.string nm, .int .i64 fr, .int .i64 last, .int .i64 mo, .int .i64 ki, .int .i64 wd, .int .i64 da, .int .i64 ti, .int .i64 re, .int .i64 save, .string le]] w (RetV w (.string t)) := by
  go_enter Tryz.func86, Tryz.ntmps86
  go_upto_region 1 with (fail)
  have KB := blk_lit w 57 [.string nm, .int .i64 fr, .int .i64 last, .int .i64 mo, .int .i64 ki, .int .i64 wd, .int .i64 da, .int .i64 ti, .int .i64 re, .int .i64 save, .string le]
  have hb := below_box w (.cells #[.string nm, .int .i64 fr, .int .i64 last, .int .i64 mo, .int .i64 ki, .int .i64 wd, .int .i64 da, .int .i64 ti, .int .i64 re, .int .i64 save, .string le] 57)
  rw [show ([.string nm, .int .i64 fr, .int .i64 last, .int .i64 mo, .int .i64 ki, .int .i64 wd, .int .i64 da, .int .i64 ti, .int .i64 re, .int .i64 save, .string le] : List Value).toArray = #[.string nm, .int .i64 fr, .int .i64 last, .int .i64 mo, .int .i64 ki, .int .i64 wd, .int .i64 da, .int .i64 ti, .int .i64 re, .int .i64 save, .string le] from rfl] at KB
  generalize w.alloc (.cells #[.string nm, .int .i64 fr, .int .i64 last, .int .i64 mo, .int .i64 ki, .int .i64 wd, .int .i64 da, .int .i64 ti, .int .i64 re, .int .i64 save, .string le] 57) = W at *
  obtain ⟨x0, x1, x2, x3, x4, x5, x6, x7, x8, x9, x10⟩ := KB.elevenC
  go_wp2_with (go_at_call 85; refine (HI.out _ (M.mono hb)).mono ?_; clear HI; rintro e w' ⟨rfl, hk⟩; replace hb := below_thru hb hk)
  go_wp2
  go_ret
  exact ⟨by first | rfl | simp, hb⟩
theorem ws_1 (rls fm : ByteArray) (til : Bool) (off kind save year mo ki wd da ti re : Int) (k1 : (kind == 1) = true) (t : ByteArray) (HT : Hid (∀ W, MomP W → Calls Tryz.prog 88 #[.int .i64 save] W (RetV W (.string t)))) (w : World) (M : MomP w) : Calls Tryz.prog 90 #[.agg #[.int .i64 off, .int .i64 kind, .int .i64 save, .string rls, .string fm, .bool til, .int .i64 year, .int .i64 mo, .int .i64 ki, .int .i64 wd, .int .i64 da, .int .i64 ti, .int .i64 re]] w (RetV w (.string t)) := by
  go_enter Tryz.func90, Tryz.ntmps90
  go_upto_region 1 with (fail)
  have KB := blk_lit w 52 [.int .i64 off, .int .i64 kind, .int .i64 save, .string rls, .string fm, .bool til, .int .i64 year, .int .i64 mo, .int .i64 ki, .int .i64 wd, .int .i64 da, .int .i64 ti, .int .i64 re]
  have hb := below_box w (.cells #[.int .i64 off, .int .i64 kind, .int .i64 save, .string rls, .string fm, .bool til, .int .i64 year, .int .i64 mo, .int .i64 ki, .int .i64 wd, .int .i64 da, .int .i64 ti, .int .i64 re] 52)
  rw [show ([.int .i64 off, .int .i64 kind, .int .i64 save, .string rls, .string fm, .bool til, .int .i64 year, .int .i64 mo, .int .i64 ki, .int .i64 wd, .int .i64 da, .int .i64 ti, .int .i64 re] : List Value).toArray = #[.int .i64 off, .int .i64 kind, .int .i64 save, .string rls, .string fm, .bool til, .int .i64 year, .int .i64 mo, .int .i64 ki, .int .i64 wd, .int .i64 da, .int .i64 ti, .int .i64 re] from rfl] at KB
  generalize w.alloc (.cells #[.int .i64 off, .int .i64 kind, .int .i64 save, .string rls, .string fm, .bool til, .int .i64 year, .int .i64 mo, .int .i64 ki, .int .i64 wd, .int .i64 da, .int .i64 ti, .int .i64 re] 52) = W at *
  obtain ⟨x0, x1, x2, x3, x4, x5, x6, x7, x8, x9, x10, x11, x12⟩ := KB.thirteenC
  go_wp2_with (go_at_call 88; refine (HT.out _ (M.mono hb)).mono ?_; clear HT; rintro e w' ⟨rfl, hk⟩; replace hb := below_thru hb hk)
  go_wp2
  go_ret
  exact ⟨by first | rfl | simp, hb⟩
theorem ws_2 (rls fm : ByteArray) (til : Bool) (off kind save year mo ki wd da ti re : Int) (k1 : (kind == 1) = false) (k2 : (kind == 2) = true) (w : World) : Calls Tryz.prog 90 #[.agg #[.int .i64 off, .int .i64 kind, .int .i64 save, .string rls, .string fm, .bool til, .int .i64 year, .int .i64 mo, .int .i64 ki, .int .i64 wd, .int .i64 da, .int .i64 ti, .int .i64 re]] w (RetV w (.string rls)) := by
  go_enter Tryz.func90, Tryz.ntmps90
  go_upto_region 1 with (fail)
  have KB := blk_lit w 52 [.int .i64 off, .int .i64 kind, .int .i64 save, .string rls, .string fm, .bool til, .int .i64 year, .int .i64 mo, .int .i64 ki, .int .i64 wd, .int .i64 da, .int .i64 ti, .int .i64 re]
  have hb := below_box w (.cells #[.int .i64 off, .int .i64 kind, .int .i64 save, .string rls, .string fm, .bool til, .int .i64 year, .int .i64 mo, .int .i64 ki, .int .i64 wd, .int .i64 da, .int .i64 ti, .int .i64 re] 52)
  rw [show ([.int .i64 off, .int .i64 kind, .int .i64 save, .string rls, .string fm, .bool til, .int .i64 year, .int .i64 mo, .int .i64 ki, .int .i64 wd, .int .i64 da, .int .i64 ti, .int .i64 re] : List Value).toArray = #[.int .i64 off, .int .i64 kind, .int .i64 save, .string rls, .string fm, .bool til, .int .i64 year, .int .i64 mo, .int .i64 ki, .int .i64 wd, .int .i64 da, .int .i64 ti, .int .i64 re] from rfl] at KB
  generalize w.alloc (.cells #[.int .i64 off, .int .i64 kind, .int .i64 save, .string rls, .string fm, .bool til, .int .i64 year, .int .i64 mo, .int .i64 ki, .int .i64 wd, .int .i64 da, .int .i64 ti, .int .i64 re] 52) = W at *
  obtain ⟨x0, x1, x2, x3, x4, x5, x6, x7, x8, x9, x10, x11, x12⟩ := KB.thirteenC
  go_wp2
  go_ret
  exact ⟨by first | rfl | simp, hb⟩
theorem ws_0 (rls fm : ByteArray) (til : Bool) (off kind save year mo ki wd da ti re : Int) (k1 : (kind == 1) = false) (k2 : (kind == 2) = false) (w : World) : Calls Tryz.prog 90 #[.agg #[.int .i64 off, .int .i64 kind, .int .i64 save, .string rls, .string fm, .bool til, .int .i64 year, .int .i64 mo, .int .i64 ki, .int .i64 wd, .int .i64 da, .int .i64 ti, .int .i64 re]] w (RetV w (.string dashT)) := by
  go_enter Tryz.func90, Tryz.ntmps90
  go_upto_region 1 with (fail)
  have KB := blk_lit w 52 [.int .i64 off, .int .i64 kind, .int .i64 save, .string rls, .string fm, .bool til, .int .i64 year, .int .i64 mo, .int .i64 ki, .int .i64 wd, .int .i64 da, .int .i64 ti, .int .i64 re]
  have hb := below_box w (.cells #[.int .i64 off, .int .i64 kind, .int .i64 save, .string rls, .string fm, .bool til, .int .i64 year, .int .i64 mo, .int .i64 ki, .int .i64 wd, .int .i64 da, .int .i64 ti, .int .i64 re] 52)
  rw [show ([.int .i64 off, .int .i64 kind, .int .i64 save, .string rls, .string fm, .bool til, .int .i64 year, .int .i64 mo, .int .i64 ki, .int .i64 wd, .int .i64 da, .int .i64 ti, .int .i64 re] : List Value).toArray = #[.int .i64 off, .int .i64 kind, .int .i64 save, .string rls, .string fm, .bool til, .int .i64 year, .int .i64 mo, .int .i64 ki, .int .i64 wd, .int .i64 da, .int .i64 ti, .int .i64 re] from rfl] at KB
  generalize w.alloc (.cells #[.int .i64 off, .int .i64 kind, .int .i64 save, .string rls, .string fm, .bool til, .int .i64 year, .int .i64 mo, .int .i64 ki, .int .i64 wd, .int .i64 da, .int .i64 ti, .int .i64 re] 52) = W at *
  obtain ⟨x0, x1, x2, x3, x4, x5, x6, x7, x8, x9, x10, x11, x12⟩ := KB.thirteenC
  go_wp2
  go_ret
  exact ⟨by first | rfl | simp, hb⟩
theorem writtenLastP (x : Rl) (k : x.ok) (w : World) (M : MomP w) : Calls Tryz.prog 86 #[x.val] w (RetV w (.string (untilT x))) := by
  obtain ⟨nm, fr, last, ⟨mo, ki, wd, da, ti, re⟩, save, le⟩ := x
  obtain ⟨_, ⟨l1, l2⟩, _⟩ := k
  simp only at l1 l2
  unfold untilT
  simp only
  by_cases h : last = fr
  · rw [if_pos h]
    exact wl_a _ _ _ _ _ _ _ _ _ _ _ (beq_iff_eq.2 h) w
  rw [if_neg h]
  by_cases h2 : last = 1000000
  · rw [if_pos h2]
    exact wl_b _ _ _ _ _ _ _ _ _ _ _ (beq_eq_false_iff_ne.2 h) (beq_iff_eq.2 h2) w
  rw [if_neg h2]
  exact wl_c _ _ _ _ _ _ _ _ _ _ _ (beq_eq_false_iff_ne.2 h) (beq_eq_false_iff_ne.2 h2) _ (Lib.hid fun W (M : MomP W) => itoaY last (by omega) (by omega) W M.pow) w M
theorem writtenSavingP (x : Er) (k : x.ok) (w : World) (M : MomP w) : Calls Tryz.prog 90 #[x.val] w (RetV w (.string (saveT x))) := by
  obtain ⟨off, kind, save, rls, fm, til, year, ⟨mo, ki, wd, da, ti, re⟩⟩ := x
  obtain ⟨_, sv, _, kk, _, r0, r2, _⟩ := k
  simp only at sv kk r0 r2
  unfold saveT
  simp only
  by_cases k1 : kind = 1
  · rw [if_pos k1]
    exact ws_1 _ _ _ _ _ _ _ _ _ _ _ _ _ (beq_iff_eq.2 k1) _ (Lib.hid fun W (M : MomP W) => timeMP save (by unfold In64; omega) W M.pow) w M
  rw [if_neg k1]
  by_cases k2 : kind = 2
  · have := (set_bare (r2 k2)).1
    rw [dash_of this]
    exact ws_2 _ _ _ _ _ _ _ _ _ _ _ _ _ (beq_eq_false_iff_ne.2 k1) (beq_iff_eq.2 k2) w
  · rw [r0 k2, show dashB ⟨#[]⟩ = dashT from rfl]
    exact ws_0 _ _ _ _ _ _ _ _ _ _ _ _ _ (beq_eq_false_iff_ne.2 k1) (beq_eq_false_iff_ne.2 k2) w
theorem writtenSpotP (mo ki wd da ti re : Int) (l : List ByteArray) (x : Int) (PR : Hid (∀ W, MomP W → Calls Tryz.prog 122 #[.agg #[.int .i64 mo, .int .i64 ki, .int .i64 wd, .int .i64 da, .int .i64 ti, .int .i64 re]] W (RetTx W l x))) (w : World) (M : MomP w) :
    Calls Tryz.prog 87 #[.agg #[.int .i64 mo, .int .i64 ki, .int .i64 wd, .int .i64 da, .int .i64 ti, .int .i64 re]] w (RetSs w l) := by
  go_enter Tryz.func87, Tryz.ntmps87
  go_upto_region 1 with (fail)
  have KB := (BK.nil w).more6 (.int .i64 (mo)) (.int .i64 (ki)) (.int .i64 (wd)) (.int .i64 (da)) (.int .i64 (ti)) (.int .i64 (re)) 50
  generalize w.alloc (.cells #[.int .i64 (mo), .int .i64 (ki), .int .i64 (wd), .int .i64 (da), .int .i64 (ti), .int .i64 (re)] 50) = W at *
  obtain ⟨_, r0, r1, r2, r3, r4, r5, _⟩ := KB.head.six
  have hb := KB.hb
  go_wp2_with (go_at_call 122; refine (PR.out _ (M.mono hb)).mono ?_; clear PR; rintro e w' ⟨A, n, c, rfl, hs, hk⟩; replace hb := below_thru hb hk)
  go_wp2
  go_ret
  exact ⟨A, n, c, rfl, hs, hb⟩
theorem orP (g o c : Nat) (a b : ByteArray) (w : World) (c0 : w.cell? ⟨g, o, none⟩ = some (.string a)) (c1 : w.cell? ⟨g, o + 1, none⟩ = some (.string b)) (hb0 : ¬ b = ⟨#[]⟩) :
    Calls Tryz.prog 89 #[.slice (some ⟨g, o, none⟩) 2 c] w (SameV w (.string (if a.size = 0 then b else a))) := by
  obtain ⟨b1, b2, b3⟩ := some_textP hb0
  have s0 : ((0 : Nat) : Int) = 0 := rfl
  by_cases h : a.size = 0
  · rw [if_pos h]
    obtain ⟨a1, a2, a3⟩ := no_textP (empty_of h)
    have a4 : (a.toList != []) = false := by rw [a3]; rfl
    have b4 : (b.toList != []) = true := bne_iff_ne.2 b3
    clear h hb0
    go_enter Tryz.func89, Tryz.ntmps89
    go_wp2_with fail
    go_loop [5, 8] (fun v5 v8 => ∃ k : Nat, k ≤ 1 ∧ v8 = .int .i64 k) (fun _ v => 2 - (intOf v).toNat)
    case atStart => exact ⟨0, by omega, rfl⟩
    case round =>
      obtain ⟨k, hk, rfl⟩ := hrel
      by_cases h0 : k = 0
      · subst h0
        go_wp2
        go_round
        case rel => exact ⟨1, by omega, rfl⟩
        case measure => simp only [intOf]; omega
      · obtain rfl : k = 1 := by omega
        go_wp2
        go_ret
        exact ⟨rfl, rfl⟩
  · rw [if_neg h]
    obtain ⟨a1, a2, a3⟩ := some_textP (s := a) (fun e => h (by rw [e]; rfl))
    have a4 : (a.toList != []) = true := bne_iff_ne.2 a3
    clear h hb0
    go_enter Tryz.func89, Tryz.ntmps89
    go_wp2_with fail
    go_loop [5, 8] (fun v5 v8 => v8 = .int .i64 0) (fun _ v => 2 - (intOf v).toNat)
    case atStart => rfl
    case round =>
      obtain rfl := hrel
      go_wp2
      go_ret
      exact ⟨rfl, rfl⟩
theorem pstr_inf : (Tryz.prog.info? 9).map (fun i => (i.zero, i.size, i.bytes)) = some (some (.string ⟨#[]⟩), 1, 16) := by kernel_rfl
theorem strs_app (a b : List ByteArray) : strs a ++ strs b = strs (a ++ b) := by simp [strs]
theorem strs_one (l : List ByteArray) : ∀ u ∈ strs l, u.oneCell' = true := fun u hu => by
  unfold strs at hu
  obtain ⟨s, _, rfl⟩ := List.mem_map.1 hu
  rfl
theorem Ss.news {w : World} {A : Option Addr} {n c : Nat} {l : List ByteArray} (h : Ss w A n c l) (h0 : 0 < n) : ∃ a, A = some a ∧ ∀ j u, (strs l)[j]? = some u → w.cell? (a.add j) = some u := by
  obtain ⟨g, o, e, _, hc⟩ := h.cells h0
  refine ⟨_, e, fun j u hu => ?_⟩
  have hj : j < l.length := by
    have := (List.getElem?_eq_some_iff.1 hu).1
    rw [strs_length] at this
    exact this
  have hu2 : u = .string l[j] := by
    unfold strs at hu
    rw [List.getElem?_map, List.getElem?_eq_getElem hj] at hu
    exact (Option.some.inj hu).symm
  rw [hu2, show ((⟨g, o, none⟩ : Addr).add j) = ⟨g, o + j, none⟩ by unfold Addr.add; split <;> simp_all]
  exact hc j hj
theorem own_made (w : World) (xs ys : List Value) (N cap : Nat) (z : Array Value) (hl : (xs ++ ys).length = N) (hc : N ≤ cap) (hm : cap ≤ maxLen) (hz : z.size = cap - N) :
    (w.drew.alloc (.cells (xs.toArray ++ ys.toArray ++ z) 9)).ownsRow w.heap.size 9 1 (.slice (some ⟨w.heap.size, 0, none⟩) N cap) N (xs ++ ys) := by
  refine ⟨by rw [hl, Nat.mul_one], .inr ⟨w.heap.size, cap, _, rfl, Nat.le_refl _, World.alloc_heap_new w.drew _, hc, hm, ?_, ?_⟩⟩
  · rw [Array.size_append, Array.size_append, hz, List.size_toArray, List.size_toArray]
    rw [List.length_append] at hl
    omega
  · simp only [Array.toList_append, List.append_assoc]
    rw [← List.append_assoc, Nat.mul_one, ← hl]
    exact List.take_left
def FullS (w : World) (v : Value) (xs : List ByteArray) : Prop := (v = .slice none 0 0 ∧ xs = []) ∨ ∃ A n, v = .slice A n n ∧ 0 < n ∧ Ss w A n n xs
theorem FullS.below {w W : World} {v : Value} {xs : List ByteArray} (h : FullS w v xs) (hb : Below w.heap.size w W) : FullS W v xs := by
  rcases h with h | ⟨A, n, e, h0, hs⟩
  · exact .inl h
  · exact .inr ⟨A, n, e, h0, hs.below hb⟩
theorem run_app_full (w : World) (ty : TypeId) (v : Value) (xs ys : List ByteArray) (hv : FullS w v xs) (B : Option Addr) (m c : Nat) (hy : Ss w B m c ys) (hm : 0 < m) (N : Nat) (hN : xs.length + m = N) (hle : N ≤ 1000) :
    ∃ cap W', (Builtin.append_ #[41, 41] ty #[v, .slice B m c]).run Tryz.prog w = .ok (.slice (some ⟨w.heap.size, 0, none⟩) N cap) W' ∧
      W'.ownsRow w.heap.size 9 1 (.slice (some ⟨w.heap.size, 0, none⟩) N cap) N (strs (xs ++ ys)) ∧ Below w.heap.size w W' := by
  obtain ⟨i, hi, hz, hs, hb⟩ := info_partsS pstr_inf
  obtain ⟨a, rfl, hn⟩ := hy.news hm
  have hl := hy.len
  have ml : N ≤ maxLen := by unfold maxLen; omega
  have z1 : (Value.string ⟨#[]⟩).cells.size = 1 := rfl
  have zc : ∀ k, (Builtin.zeroCells (Value.string ⟨#[]⟩).cells k).size = k := fun k => by rw [size_zeroCells, z1, Nat.mul_one]
  have HB : ∀ o, Below w.heap.size w (w.drew.alloc o) := fun o => below_thru (Below.refl _ _).drew (below_box w.drew o)
  rcases hv with ⟨rfl, rfl⟩ | ⟨A, n, rfl, h0, hx⟩
  · have e0 : m = N := by simpa using hN
    subst e0
    have hr := run_append_nil (P := Tryz.prog) w 41 ty 9 i _ Tryz.underlying41 hi hz a m c (strs ys) (by rw [strs_length, hs]; omega) hn hm (by omega) (by rw [hb]; omega)
    refine ⟨_, _, hr, ?_, HB _⟩
    have := own_made w [] (strs ys) m (grownCap w m 0 9) (Builtin.zeroCells (Value.string ⟨#[]⟩).cells (grownCap w m 0 9 - m)) (by rw [List.nil_append, strs_length]; exact hl) (grownCap_ge _ _ _ _) (grownCap_le_maxLen _ _ _ _ ml) (zc _)
    simpa using this
  · obtain ⟨b, rfl, ho⟩ := hx.news h0
    have hlx := hx.len
    have hr := run_append_grow (P := Tryz.prog) w 41 ty 9 i _ Tryz.underlying41 hi hz b n n (strs xs) (by rw [strs_length, hs]; omega) ho a m c (strs ys) (by rw [strs_length, hs]; omega) hn (by omega) (by omega) (growslice_fits (by omega) (by rw [hb]; omega))
    have e0 : n + m = N := by omega
    rw [e0] at hr
    refine ⟨_, _, hr, ?_, HB _⟩
    rw [← strs_app]
    exact own_made w (strs xs) (strs ys) N _ _ (by rw [List.length_append, strs_length, strs_length]; omega) (grownCap_ge _ _ _ _) (grownCap_le_maxLen _ _ _ _ ml) (zc _)
theorem wp_app_full (w : World) {o : Oper} {a : Act} {K : Act → World → Prop} {Q : Exit → Act → World → Prop} (s x : Operand)
    (ho : o.op = .call { callee := .builtin .append, args := #[s, x], argTypes := #[41, 41] })
    (v : Value) (xs ys : List ByteArray) (hs : a.eval s = v) (hv : FullS w v xs) (B : Option Addr) (m c : Nat) (hx : a.eval x = .slice B m c) (hy : Ss w B m c ys) (hm : 0 < m) (N : Nat) (hN : xs.length + m = N) (hle : N ≤ 1000)
    (h : ∀ cap w', w'.ownsRow w.heap.size 9 1 (.slice (some ⟨w.heap.size, 0, none⟩) N cap) N (strs (xs ++ ys)) → Below w.heap.size w w' → K (a.put o.dst (.slice (some ⟨w.heap.size, 0, none⟩) N cap)) w') : o.wp Tryz.prog a w K Q := by
  obtain ⟨cap, w', hr, h2, h3⟩ := run_app_full w o.type v xs ys hv B m c hy hm N hN hle
  unfold Oper.wp execOp
  simp only [ho, resolve, invoke, builtin, Sem.run_bind, Sem.run_pure, Result.andThen_ok, List.map_toArray, List.map_cons, List.map_nil, hs, hx, hr]
  exact h cap w' h2 h3
theorem wpList_app_full (w : World) {ops : Array Oper} {rest : List Oper} {o : Oper} {a : Act} {Q : Exit → Act → World → Prop} (hgd : o.guard = none) (s x : Operand)
    (ho : o.op = .call { callee := .builtin .append, args := #[s, x], argTypes := #[41, 41] })
    (v : Value) (xs ys : List ByteArray) (hs : a.eval s = v) (hv : FullS w v xs) (B : Option Addr) (m c : Nat) (hx : a.eval x = .slice B m c) (hy : Ss w B m c ys) (hm : 0 < m) (N : Nat) (hN : xs.length + m = N) (hle : N ≤ 1000)
    (h : ∀ cap w', w'.ownsRow w.heap.size 9 1 (.slice (some ⟨w.heap.size, 0, none⟩) N cap) N (strs (xs ++ ys)) → Below w.heap.size w w' → wpList Tryz.prog ops Q rest (a.put o.dst (.slice (some ⟨w.heap.size, 0, none⟩) N cap)) w') : wpList Tryz.prog ops Q (o :: rest) a w :=
  wpList_plain hgd fun _ hK => wp_app_full w s x ho v xs ys hs hv B m c hx hy hm N hN hle fun cap w' h2 h3 => hK _ _ (h cap w' h2 h3)
theorem step_app_full (w : World) {ops : Array Oper} {o : Oper} {a : Act} {K : Act → World → Prop} {Q : Exit → Act → World → Prop} {E : Prop} (hgd : o.guard = none) (s x : Operand)
    (ho : o.op = .call { callee := .builtin .append, args := #[s, x], argTypes := #[41, 41] })
    (v : Value) (xs ys : List ByteArray) (hs : a.eval s = v) (hv : FullS w v xs) (B : Option Addr) (m c : Nat) (hx : a.eval x = .slice B m c) (hy : Ss w B m c ys) (hm : 0 < m) (N : Nat) (hN : xs.length + m = N) (hle : N ≤ 1000)
    (h : ∀ b cap w', w.heap.size = b → w'.ownsRow b 9 1 (.slice (some ⟨b, 0, none⟩) N cap) N (strs (xs ++ ys)) → Below w.heap.size w w' → K (a.put o.dst (.slice (some ⟨b, 0, none⟩) N cap)) w') :
    if Region.wanted o (yielded ops a.tmps) = true then Oper.wp Tryz.prog o a w K Q else E := by
  have hw : Region.wanted o (yielded ops a.tmps) = true := by simp [Region.wanted, hgd]
  rw [if_pos hw]
  exact wp_app_full w s x ho v xs ys hs hv B m c hx hy hm N hN hle fun cap w' => h _ cap w' rfl
theorem step_app_own (w : World) {ops : Array Oper} {o : Oper} {a : Act} {K : Act → World → Prop} {Q : Exit → Act → World → Prop} {E : Prop} (hgd : o.guard = none) (s x : Operand)
    (ho : o.op = .call { callee := .builtin .append, args := #[s, x], argTypes := #[41, 41] })
    (base : Nat) (v : Value) (n : Nat) (xs ys : List ByteArray) (hs : a.eval s = v) (hv : w.ownsRow base 9 1 v n (strs xs)) (B : Option Addr) (m c : Nat) (hx : a.eval x = .slice B m c) (hy : Ss w B m c ys) (hm : 0 < m) (N : Nat) (hN : n + m = N) (hle : N ≤ 1000) (hbase : base ≤ w.heap.size)
    (h : ∀ g cap w', Ss w' (some ⟨g, 0, none⟩) N cap (xs ++ ys) → (∀ (b0 : Nat) (W0 : World), b0 ≤ base → b0 ≤ W0.heap.size → Below b0 W0 w → Below b0 W0 w') → w.heap.size ≤ w'.heap.size → K (a.put o.dst (.slice (some ⟨g, 0, none⟩) N cap)) w') :
    if Region.wanted o (yielded ops a.tmps) = true then Oper.wp Tryz.prog o a w K Q else E := by
  obtain ⟨i, hi, hz, hs1, hb⟩ := info_partsS pstr_inf
  obtain ⟨ad, rfl, hn⟩ := hy.news hm
  have hl := hy.len
  subst hN
  refine step_append_lies w hgd s x 41 ho base 9 i _ 1 16 Tryz.underlying41 hi hz hs1 hb rfl (by decide) v n (strs xs) hs hv ad m c (strs ys) hx (by rw [strs_length, Nat.mul_one]; exact hl) hn (strs_one ys) hm (by unfold maxLen; omega) (by omega) hbase _ rfl fun g cap w' h1 h2 h3 h4 => ?_
  rw [strs_app] at h1
  obtain ⟨A, c', e, hS⟩ := Ss.of_own h1
  cases e
  exact h g cap w' hS (fun b0 W0 l1 l2 hB => below_grown h2 (fun r hr => Nat.le_trans l1 (hv.lt r hr).1) hB l2) h2.size
def MonoF (F : World → Prop) : Prop := ∀ X X', F X → Below X.heap.size X X' → F X'
structure StF (w : World) (vals : List Value) (F : World → Prop) (X : World) : Prop where
  mono : MonoF F
  b : Blk X w.heap.size vals
  hb : Below w.heap.size w X
  f : F X
theorem StF.below {w : World} {vals : List Value} {F : World → Prop} {X X' : World} (h : StF w vals F X) (k : Below X.heap.size X X') : StF w vals F X' := ⟨h.mono, h.b.below k, below_thru h.hb k, h.mono _ _ h.f k⟩
theorem StF.drew {w : World} {vals : List Value} {F : World → Prop} {X : World} (h : StF w vals F X) : StF w vals F X.drew := h.below (Below.refl _ _).drew
theorem StF.alloc {w : World} {vals : List Value} {F : World → Prop} {X : World} (h : StF w vals F X) (o : Obj) : StF w vals F (X.alloc o) := h.below (below_box X o)
theorem StF.and {w : World} {vals : List Value} {F G : World → Prop} {X : World} (h : StF w vals F X) (m : MonoF G) (g : G X) : StF w vals (fun X => F X ∧ G X) X :=
  ⟨fun A B k l => ⟨h.mono A B k.1 l, m A B k.2 l⟩, h.b, h.hb, h.f, g⟩
theorem monoT : MonoF (fun _ => True) := fun _ _ _ _ => trivial
theorem mono_ss (A : Option Addr) (n c : Nat) (l : List ByteArray) : MonoF (fun X => Ss X A n c l) := fun _ _ h k => h.below k
theorem mono_full (v : Value) (xs : List ByteArray) : MonoF (fun X => FullS X v xs) := fun _ _ h k => h.below k
theorem mono_own (base n : Nat) (v : Value) (xs : List Value) : MonoF (fun X => X.ownsRow base 9 1 v n xs) := fun _ _ h k => h.kept (below_own k) (by cases q : v.ownBlock with | none => exact .inl rfl | some k => exact .inr (by intro c; cases c))
theorem StF.app {w X w' : World} {vals : List Value} {F : World → Prop} {base : Nat} (h : StF w vals F X) (lt : w.heap.size < base) (le : base ≤ X.heap.size) (k : ∀ (b0 : Nat) (W0 : World), b0 ≤ base → b0 ≤ W0.heap.size → Below b0 W0 X → Below b0 W0 w') : StF w vals (fun _ => True) w' :=
  ⟨monoT, blk_lo (k base X (Nat.le_refl _) le (Below.refl _ _)) lt h.b, k _ _ (by omega) (Nat.le_refl _) h.hb, trivial⟩
theorem Ss.litB (w : World) (l : List ByteArray) (t : TypeId) (b : Nat) (hb : w.heap.size = b) (h0 : 0 < l.length) (h : l.length ≤ 100) : Ss (w.alloc (.cells (strs l).toArray t)) (some ⟨b, 0, none⟩) l.length l.length l := hb ▸ Ss.lit w l t h0 h
theorem mono_own2 (base n : Nat) (v : Value) (xs : List Value) : MonoF (fun X => X.ownsRow base 9 1 v n xs ∧ base ≤ X.heap.size) := fun X X' h k => ⟨mono_own base n v xs X X' h.1 k, Nat.le_trans h.2 k.size⟩
theorem rule_cells {w X : World} {F : World → Prop} {nm le : ByteArray} {fr last mo ki wd da ti re save : Int} (h : StF w [.string nm, .int .i64 fr, .int .i64 last, .int .i64 mo, .int .i64 ki, .int .i64 wd, .int .i64 da, .int .i64 ti, .int .i64 re, .int .i64 save, .string le] F X) : X.cell? ⟨w.heap.size, 0, none⟩ = some (.string nm) ∧ X.cell? ⟨w.heap.size, 1, none⟩ = some (.int .i64 fr) ∧ X.cell? ⟨w.heap.size, 2, none⟩ = some (.int .i64 last) ∧ X.cell? ⟨w.heap.size, 3, none⟩ = some (.int .i64 mo) ∧ X.cell? ⟨w.heap.size, 4, none⟩ = some (.int .i64 ki) ∧ X.cell? ⟨w.heap.size, 5, none⟩ = some (.int .i64 wd) ∧ X.cell? ⟨w.heap.size, 6, none⟩ = some (.int .i64 da) ∧ X.cell? ⟨w.heap.size, 7, none⟩ = some (.int .i64 ti) ∧ X.cell? ⟨w.heap.size, 8, none⟩ = some (.int .i64 re) ∧ X.cell? ⟨w.heap.size, 9, none⟩ = some (.int .i64 save) ∧ X.cell? ⟨w.heap.size, 10, none⟩ = some (.string le) := ⟨h.b.elevenC.1, h.b.elevenC.2.1, h.b.elevenC.2.2.1, h.b.elevenC.2.2.2.1, h.b.elevenC.2.2.2.2.1, h.b.elevenC.2.2.2.2.2.1, h.b.elevenC.2.2.2.2.2.2.1, h.b.elevenC.2.2.2.2.2.2.2.1, h.b.elevenC.2.2.2.2.2.2.2.2.1, h.b.elevenC.2.2.2.2.2.2.2.2.2.1, h.b.elevenC.2.2.2.2.2.2.2.2.2.2⟩
theorem rule_cells3 {w X : World} {F : World → Prop} {nm le : ByteArray} {fr last mo ki wd da ti re save : Int} (h : StF w [.string nm, .int .i64 fr, .int .i64 last, .int .i64 mo, .int .i64 ki, .int .i64 wd, .int .i64 da, .int .i64 ti, .int .i64 re, .int .i64 save, .string le] F X) : X.cell? ⟨w.heap.size, 9, none⟩ = some (.int .i64 save) ∧ X.cell? ⟨w.heap.size, 10, none⟩ = some (.string le) := ⟨h.b.elevenC.2.2.2.2.2.2.2.2.2.1, h.b.elevenC.2.2.2.2.2.2.2.2.2.2⟩
theorem era_cells {w X : World} {F : World → Prop} {rls fm : ByteArray} {til : Bool} {off kind save year mo ki wd da ti re : Int} (h : StF w [.int .i64 off, .int .i64 kind, .int .i64 save, .string rls, .string fm, .bool til, .int .i64 year, .int .i64 mo, .int .i64 ki, .int .i64 wd, .int .i64 da, .int .i64 ti, .int .i64 re] F X) : X.cell? ⟨w.heap.size, 0, none⟩ = some (.int .i64 off) ∧ X.cell? ⟨w.heap.size, 1, none⟩ = some (.int .i64 kind) ∧ X.cell? ⟨w.heap.size, 2, none⟩ = some (.int .i64 save) ∧ X.cell? ⟨w.heap.size, 3, none⟩ = some (.string rls) ∧ X.cell? ⟨w.heap.size, 4, none⟩ = some (.string fm) ∧ X.cell? ⟨w.heap.size, 5, none⟩ = some (.bool til) ∧ X.cell? ⟨w.heap.size, 6, none⟩ = some (.int .i64 year) ∧ X.cell? ⟨w.heap.size, 7, none⟩ = some (.int .i64 mo) ∧ X.cell? ⟨w.heap.size, 8, none⟩ = some (.int .i64 ki) ∧ X.cell? ⟨w.heap.size, 9, none⟩ = some (.int .i64 wd) ∧ X.cell? ⟨w.heap.size, 10, none⟩ = some (.int .i64 da) ∧ X.cell? ⟨w.heap.size, 11, none⟩ = some (.int .i64 ti) ∧ X.cell? ⟨w.heap.size, 12, none⟩ = some (.int .i64 re) := ⟨h.b.thirteenC.1, h.b.thirteenC.2.1, h.b.thirteenC.2.2.1, h.b.thirteenC.2.2.2.1, h.b.thirteenC.2.2.2.2.1, h.b.thirteenC.2.2.2.2.2.1, h.b.thirteenC.2.2.2.2.2.2.1, h.b.thirteenC.2.2.2.2.2.2.2.1, h.b.thirteenC.2.2.2.2.2.2.2.2.1, h.b.thirteenC.2.2.2.2.2.2.2.2.2.1, h.b.thirteenC.2.2.2.2.2.2.2.2.2.2.1, h.b.thirteenC.2.2.2.2.2.2.2.2.2.2.2.1, h.b.thirteenC.2.2.2.2.2.2.2.2.2.2.2.2⟩
theorem era_cells3 {w X : World} {F : World → Prop} {rls fm : ByteArray} {til : Bool} {off kind save year mo ki wd da ti re : Int} (h : StF w [.int .i64 off, .int .i64 kind, .int .i64 save, .string rls, .string fm, .bool til, .int .i64 year, .int .i64 mo, .int .i64 ki, .int .i64 wd, .int .i64 da, .int .i64 ti, .int .i64 re] F X) : X.cell? ⟨w.heap.size, 6, none⟩ = some (.int .i64 year) ∧ X.cell? ⟨w.heap.size, 7, none⟩ = some (.int .i64 mo) ∧ X.cell? ⟨w.heap.size, 8, none⟩ = some (.int .i64 ki) ∧ X.cell? ⟨w.heap.size, 9, none⟩ = some (.int .i64 wd) ∧ X.cell? ⟨w.heap.size, 10, none⟩ = some (.int .i64 da) ∧ X.cell? ⟨w.heap.size, 11, none⟩ = some (.int .i64 ti) ∧ X.cell? ⟨w.heap.size, 12, none⟩ = some (.int .i64 re) := ⟨h.b.thirteenC.2.2.2.2.2.2.1, h.b.thirteenC.2.2.2.2.2.2.2.1, h.b.thirteenC.2.2.2.2.2.2.2.2.1, h.b.thirteenC.2.2.2.2.2.2.2.2.2.1, h.b.thirteenC.2.2.2.2.2.2.2.2.2.2.1, h.b.thirteenC.2.2.2.2.2.2.2.2.2.2.2.1, h.b.thirteenC.2.2.2.2.2.2.2.2.2.2.2.2⟩
theorem wrule_core (nm le : ByteArray) (fr last mo ki wd da ti re save : Int) (t1 t2 s1 s2 s3 t3 t4 : ByteArray)
    (HI : Hid (∀ W, MomP W → Calls Tryz.prog 85 #[.int .i64 fr] W (RetV W (.string t1))))
    (HL : Hid (∀ W, MomP W → Calls Tryz.prog 86 #[.agg #[.string nm, .int .i64 fr, .int .i64 last, .int .i64 mo, .int .i64 ki, .int .i64 wd, .int .i64 da, .int .i64 ti, .int .i64 re, .int .i64 save, .string le]] W (RetV W (.string t2))))
    (HS : Hid (∀ W, MomP W → Calls Tryz.prog 87 #[.agg #[.int .i64 mo, .int .i64 ki, .int .i64 wd, .int .i64 da, .int .i64 ti, .int .i64 re]] W (RetSs W [s1, s2, s3])))
    (HT : Hid (∀ W, MomP W → Calls Tryz.prog 88 #[.int .i64 save] W (RetV W (.string t3))))
    (HO : Hid (∀ g o c W, W.cell? ⟨g, o, none⟩ = some (.string le) → W.cell? ⟨g, o + 1, none⟩ = some (.string dashT) → Calls Tryz.prog 89 #[.slice (some ⟨g, o, none⟩) 2 c] W (SameV W (.string t4))))
    (w : World) (M : MomP w) : Calls Tryz.prog 53 #[.agg #[.string nm, .int .i64 fr, .int .i64 last, .int .i64 mo, .int .i64 ki, .int .i64 wd, .int .i64 da, .int .i64 ti, .int .i64 re, .int .i64 save, .string le]] w (RetSs w [ruleT, nm, t1, t2, dashT, s1, s2, s3, t3, t4]) := by
  go_enter Tryz.func53, Tryz.ntmps53
  go_upto_region 1 with (fail)
  have HW : StF w [.string nm, .int .i64 fr, .int .i64 last, .int .i64 mo, .int .i64 ki, .int .i64 wd, .int .i64 da, .int .i64 ti, .int .i64 re, .int .i64 save, .string le] (fun _ => True) (w.alloc (.cells #[.string nm, .int .i64 fr, .int .i64 last, .int .i64 mo, .int .i64 ki, .int .i64 wd, .int .i64 da, .int .i64 ti, .int .i64 re, .int .i64 save, .string le] 57)) := ⟨monoT, blk_lit w 57 [.string nm, .int .i64 fr, .int .i64 last, .int .i64 mo, .int .i64 ki, .int .i64 wd, .int .i64 da, .int .i64 ti, .int .i64 re, .int .i64 save, .string le], below_box w _, trivial⟩
  generalize w.alloc (.cells #[.string nm, .int .i64 fr, .int .i64 last, .int .i64 mo, .int .i64 ki, .int .i64 wd, .int .i64 da, .int .i64 ti, .int .i64 re, .int .i64 save, .string le] 57) = W0 at *
  go_cut [3] (fun v3 wx => FullS wx v3 [ruleT, nm, t1, t2, dashT] ∧ StF w [.string nm, .int .i64 fr, .int .i64 last, .int .i64 mo, .int .i64 ki, .int .i64 wd, .int .i64 da, .int .i64 ti, .int .i64 re, .int .i64 save, .string le] (fun _ => True) wx)
  case first =>
    go_region_held3 (fun w' => w'.cell? ⟨w.heap.size, 0, none⟩ = some (.string nm) ∧ w'.cell? ⟨w.heap.size, 1, none⟩ = some (.int .i64 fr) ∧ w'.cell? ⟨w.heap.size, 2, none⟩ = some (.int .i64 last) ∧ w'.cell? ⟨w.heap.size, 3, none⟩ = some (.int .i64 mo) ∧ w'.cell? ⟨w.heap.size, 4, none⟩ = some (.int .i64 ki) ∧ w'.cell? ⟨w.heap.size, 5, none⟩ = some (.int .i64 wd) ∧ w'.cell? ⟨w.heap.size, 6, none⟩ = some (.int .i64 da) ∧ w'.cell? ⟨w.heap.size, 7, none⟩ = some (.int .i64 ti) ∧ w'.cell? ⟨w.heap.size, 8, none⟩ = some (.int .i64 re) ∧ w'.cell? ⟨w.heap.size, 9, none⟩ = some (.int .i64 save) ∧ w'.cell? ⟨w.heap.size, 10, none⟩ = some (.string le)) (first | (with_reducible exact rule_cells HW) | (with_reducible exact rule_cells HW.drew) | (with_reducible exact rule_cells (HW.alloc _)) | (with_reducible exact rule_cells (HW.drew.alloc _)) | (with_reducible exact rule_cells ((HW.alloc _).alloc _)) | (with_reducible exact rule_cells ((HW.drew.alloc _).alloc _)) | go_keep)
      (first
      | (go_at_call 85; (with_reducible refine (HI.out _ (by first | with_reducible exact M.mono (StF.hb HW) | with_reducible exact M.mono (StF.hb HW.drew) | with_reducible exact M.mono (StF.hb (HW.alloc _)) | with_reducible exact M.mono (StF.hb (HW.drew.alloc _)) | with_reducible exact M.mono (StF.hb (HW.alloc _).drew) | with_reducible exact M.mono (StF.hb ((HW.alloc _).alloc _)) | with_reducible exact M.mono (StF.hb ((HW.drew.alloc _).alloc _)) | with_reducible exact M.mono (StF.hb ((HW.alloc _).alloc _).drew))).mono ?_); rintro e W9 ⟨rfl, hk⟩
         with_reducible (first | replace HW := StF.below HW hk | replace HW := StF.below HW.drew hk | replace HW := StF.below (HW.alloc _) hk | replace HW := StF.below (HW.drew.alloc _) hk | replace HW := StF.below (HW.alloc _).drew hk | replace HW := StF.below ((HW.alloc _).alloc _) hk | replace HW := StF.below ((HW.drew.alloc _).alloc _) hk | replace HW := StF.below ((HW.alloc _).alloc _).drew hk)
         clear hk)
      | (go_at_call 86; (with_reducible refine (HL.out _ (by first | with_reducible exact M.mono (StF.hb HW) | with_reducible exact M.mono (StF.hb HW.drew) | with_reducible exact M.mono (StF.hb (HW.alloc _)) | with_reducible exact M.mono (StF.hb (HW.drew.alloc _)) | with_reducible exact M.mono (StF.hb (HW.alloc _).drew) | with_reducible exact M.mono (StF.hb ((HW.alloc _).alloc _)) | with_reducible exact M.mono (StF.hb ((HW.drew.alloc _).alloc _)) | with_reducible exact M.mono (StF.hb ((HW.alloc _).alloc _).drew))).mono ?_); rintro e W9 ⟨rfl, hk⟩
         with_reducible (first | replace HW := StF.below HW hk | replace HW := StF.below HW.drew hk | replace HW := StF.below (HW.alloc _) hk | replace HW := StF.below (HW.drew.alloc _) hk | replace HW := StF.below (HW.alloc _).drew hk | replace HW := StF.below ((HW.alloc _).alloc _) hk | replace HW := StF.below ((HW.drew.alloc _).alloc _) hk | replace HW := StF.below ((HW.alloc _).alloc _).drew hk)
         clear hk))
    all_goals
      go_wp2_with fail
      go_meet
      exact ⟨.inr ⟨_, 5, rfl, by decide, Ss.lit _ [ruleT, nm, t1, t2, dashT] _ (by show 0 < 5; decide) (by show 5 ≤ 100; decide)⟩, (by repeat (first | with_reducible exact HW | with_reducible refine StF.drew ?_ | with_reducible refine StF.alloc ?_ _))⟩
  case rest =>
  obtain ⟨HF, HW⟩ := hcut
  obtain ⟨x0, x1, x2, x3, x4, x5, x6, x7, x8, x9, x10⟩ := rule_cells HW
  go_wp2_with first
    | (go_at_call 87; refine (HS.out _ (M.mono HW.hb)).mono ?_; clear HS; rintro e W9 ⟨B, m, c, rfl, hs, hk⟩; replace HF := HF.below hk; replace HW := HW.below hk; clear hk x0 x1 x2 x3 x4 x5 x6 x7 x8 x9 x10; have hm : m = 3 := hs.len.symm; subst hm; have lt9 := HW.b.lt)
    | (at_builtin; refine wpList_app_full _ rfl _ _ rfl _ _ _ rfl HF B 3 c rfl hs (by decide) 8 rfl (by decide) ?_; intro cap W2 ho hk; replace HW := (HW.below hk).and (mono_own2 _ _ _ _) ⟨ho, hk.size⟩; clear HF hs ho hk; generalize W9.heap.size = b9 at *; clear W9)
  clear HI HL
  go_wp2_with fail
  go_region_held3 (fun w' => w'.cell? ⟨w.heap.size, 9, none⟩ = some (.int .i64 save) ∧ w'.cell? ⟨w.heap.size, 10, none⟩ = some (.string le)) (first | (with_reducible exact rule_cells3 HW) | (with_reducible exact rule_cells3 HW.drew) | (with_reducible exact rule_cells3 (HW.alloc _)) | (with_reducible exact rule_cells3 (HW.drew.alloc _)) | (with_reducible exact rule_cells3 ((HW.alloc _).alloc _)) | (with_reducible exact rule_cells3 ((HW.drew.alloc _).alloc _)) | go_keep)
      (first
      | (go_at_call 88; (with_reducible refine (HT.out _ (by first | with_reducible exact M.mono (StF.hb HW) | with_reducible exact M.mono (StF.hb HW.drew) | with_reducible exact M.mono (StF.hb (HW.alloc _)) | with_reducible exact M.mono (StF.hb (HW.drew.alloc _)) | with_reducible exact M.mono (StF.hb (HW.alloc _).drew) | with_reducible exact M.mono (StF.hb ((HW.alloc _).alloc _)) | with_reducible exact M.mono (StF.hb ((HW.drew.alloc _).alloc _)) | with_reducible exact M.mono (StF.hb ((HW.alloc _).alloc _).drew))).mono ?_); rintro e W9 ⟨rfl, hk⟩
         with_reducible (first | replace HW := StF.below HW hk | replace HW := StF.below HW.drew hk | replace HW := StF.below (HW.alloc _) hk | replace HW := StF.below (HW.drew.alloc _) hk | replace HW := StF.below (HW.alloc _).drew hk | replace HW := StF.below ((HW.alloc _).alloc _) hk | replace HW := StF.below ((HW.drew.alloc _).alloc _) hk | replace HW := StF.below ((HW.alloc _).alloc _).drew hk)
         try (have KQ := (Blk.drew (blk_lit _ _ [.string le, .string ⟨#[45]⟩])).below hk; obtain ⟨_, q0, q1, _⟩ := KQ.two)
         try (have KQ := (blk_lit _ _ [.string le, .string ⟨#[45]⟩]).below hk; obtain ⟨_, q0, q1, _⟩ := KQ.two)
         clear hk)
      | (go_at_call 89; (with_reducible refine (HO.out _ _ _ _ (by first | exact q0 | simp) (by first | with_unfolding_all exact q1 | simp [dashT])).mono ?_); rintro e W9 ⟨rfl, rfl⟩)
      | (refine step_app_own _ rfl _ _ rfl b9 (.slice (some ⟨b9, 0, none⟩) 8 cap) 8 ([ruleT, nm, t1, t2, dashT] ++ [s1, s2, s3]) [t3, t4] rfl (by first | with_reducible exact (StF.f HW).2.1 | with_reducible exact (StF.f HW.drew).2.1 | with_reducible exact (StF.f (HW.alloc _)).2.1 | with_reducible exact (StF.f (HW.drew.alloc _)).2.1 | with_reducible exact (StF.f (HW.alloc _).drew).2.1 | with_reducible exact (StF.f ((HW.alloc _).alloc _)).2.1 | with_reducible exact (StF.f ((HW.drew.alloc _).alloc _)).2.1 | with_reducible exact (StF.f ((HW.alloc _).alloc _).drew).2.1) _ 2 2 rfl (Ss.litB _ [t3, t4] _ _ (by first | rfl | simp) (by show 0 < 2; decide) (by show 2 ≤ 100; decide)) (by decide) 10 rfl (by decide) (by first | with_reducible exact (StF.f HW).2.2 | with_reducible exact (StF.f HW.drew).2.2 | with_reducible exact (StF.f (HW.alloc _)).2.2 | with_reducible exact (StF.f (HW.drew.alloc _)).2.2 | with_reducible exact (StF.f (HW.alloc _).drew).2.2 | with_reducible exact (StF.f ((HW.alloc _).alloc _)).2.2 | with_reducible exact (StF.f ((HW.drew.alloc _).alloc _)).2.2 | with_reducible exact (StF.f ((HW.alloc _).alloc _).drew).2.2) ?_; intro g cap w' hS hBel hsz
         with_reducible (first | replace HW := StF.app HW lt9 (StF.f HW).2.2 hBel | replace HW := StF.app HW.drew lt9 (StF.f HW.drew).2.2 hBel | replace HW := StF.app (HW.alloc _) lt9 (StF.f (HW.alloc _)).2.2 hBel | replace HW := StF.app (HW.drew.alloc _) lt9 (StF.f (HW.drew.alloc _)).2.2 hBel | replace HW := StF.app (HW.alloc _).drew lt9 (StF.f (HW.alloc _).drew).2.2 hBel | replace HW := StF.app ((HW.alloc _).alloc _) lt9 (StF.f ((HW.alloc _).alloc _)).2.2 hBel | replace HW := StF.app ((HW.drew.alloc _).alloc _) lt9 (StF.f ((HW.drew.alloc _).alloc _)).2.2 hBel | replace HW := StF.app ((HW.alloc _).alloc _).drew lt9 (StF.f ((HW.alloc _).alloc _).drew).2.2 hBel)))
  all_goals
    go_wp2
    go_ret
    exact ⟨_, _, _, rfl, hS, HW.hb⟩
theorem wera_no (rls fm : ByteArray) (off kind save year mo ki wd da ti re : Int) (t1 t2 : ByteArray)
    (HT : Hid (∀ W, MomP W → Calls Tryz.prog 88 #[.int .i64 off] W (RetV W (.string t1))))
    (HL : Hid (∀ W, MomP W → Calls Tryz.prog 90 #[.agg #[.int .i64 off, .int .i64 kind, .int .i64 save, .string rls, .string fm, .bool false, .int .i64 year, .int .i64 mo, .int .i64 ki, .int .i64 wd, .int .i64 da, .int .i64 ti, .int .i64 re]] W (RetV W (.string t2))))
    (w : World) (M : MomP w) : Calls Tryz.prog 54 #[.agg #[.int .i64 off, .int .i64 kind, .int .i64 save, .string rls, .string fm, .bool false, .int .i64 year, .int .i64 mo, .int .i64 ki, .int .i64 wd, .int .i64 da, .int .i64 ti, .int .i64 re]] w (RetSs w [t1, t2, fm]) := by
  go_enter Tryz.func54, Tryz.ntmps54
  go_upto_region 1 with (fail)
  have HW : StF w [.int .i64 off, .int .i64 kind, .int .i64 save, .string rls, .string fm, .bool false, .int .i64 year, .int .i64 mo, .int .i64 ki, .int .i64 wd, .int .i64 da, .int .i64 ti, .int .i64 re] (fun _ => True) (w.alloc (.cells #[.int .i64 off, .int .i64 kind, .int .i64 save, .string rls, .string fm, .bool false, .int .i64 year, .int .i64 mo, .int .i64 ki, .int .i64 wd, .int .i64 da, .int .i64 ti, .int .i64 re] 52)) := ⟨monoT, blk_lit w 52 [.int .i64 off, .int .i64 kind, .int .i64 save, .string rls, .string fm, .bool false, .int .i64 year, .int .i64 mo, .int .i64 ki, .int .i64 wd, .int .i64 da, .int .i64 ti, .int .i64 re], below_box w _, trivial⟩
  generalize w.alloc (.cells #[.int .i64 off, .int .i64 kind, .int .i64 save, .string rls, .string fm, .bool false, .int .i64 year, .int .i64 mo, .int .i64 ki, .int .i64 wd, .int .i64 da, .int .i64 ti, .int .i64 re] 52) = W0 at *
  go_cut [3] (fun v3 wx => FullS wx v3 [t1, t2, fm] ∧ StF w [.int .i64 off, .int .i64 kind, .int .i64 save, .string rls, .string fm, .bool false, .int .i64 year, .int .i64 mo, .int .i64 ki, .int .i64 wd, .int .i64 da, .int .i64 ti, .int .i64 re] (fun _ => True) wx)
  case first =>
    go_region_held3 (fun w' => w'.cell? ⟨w.heap.size, 0, none⟩ = some (.int .i64 off) ∧ w'.cell? ⟨w.heap.size, 1, none⟩ = some (.int .i64 kind) ∧ w'.cell? ⟨w.heap.size, 2, none⟩ = some (.int .i64 save) ∧ w'.cell? ⟨w.heap.size, 3, none⟩ = some (.string rls) ∧ w'.cell? ⟨w.heap.size, 4, none⟩ = some (.string fm) ∧ w'.cell? ⟨w.heap.size, 5, none⟩ = some (.bool false) ∧ w'.cell? ⟨w.heap.size, 6, none⟩ = some (.int .i64 year) ∧ w'.cell? ⟨w.heap.size, 7, none⟩ = some (.int .i64 mo) ∧ w'.cell? ⟨w.heap.size, 8, none⟩ = some (.int .i64 ki) ∧ w'.cell? ⟨w.heap.size, 9, none⟩ = some (.int .i64 wd) ∧ w'.cell? ⟨w.heap.size, 10, none⟩ = some (.int .i64 da) ∧ w'.cell? ⟨w.heap.size, 11, none⟩ = some (.int .i64 ti) ∧ w'.cell? ⟨w.heap.size, 12, none⟩ = some (.int .i64 re)) (first | (with_reducible exact era_cells HW) | (with_reducible exact era_cells HW.drew) | (with_reducible exact era_cells (HW.alloc _)) | (with_reducible exact era_cells (HW.drew.alloc _)) | (with_reducible exact era_cells ((HW.alloc _).alloc _)) | (with_reducible exact era_cells ((HW.drew.alloc _).alloc _)) | go_keep)
      (first
      | (go_at_call 88; (with_reducible refine (HT.out _ (by first | with_reducible exact M.mono (StF.hb HW) | with_reducible exact M.mono (StF.hb HW.drew) | with_reducible exact M.mono (StF.hb (HW.alloc _)) | with_reducible exact M.mono (StF.hb (HW.drew.alloc _)) | with_reducible exact M.mono (StF.hb (HW.alloc _).drew) | with_reducible exact M.mono (StF.hb ((HW.alloc _).alloc _)) | with_reducible exact M.mono (StF.hb ((HW.drew.alloc _).alloc _)) | with_reducible exact M.mono (StF.hb ((HW.alloc _).alloc _).drew))).mono ?_); rintro e W9 ⟨rfl, hk⟩
         with_reducible (first | replace HW := StF.below HW hk | replace HW := StF.below HW.drew hk | replace HW := StF.below (HW.alloc _) hk | replace HW := StF.below (HW.drew.alloc _) hk | replace HW := StF.below (HW.alloc _).drew hk | replace HW := StF.below ((HW.alloc _).alloc _) hk | replace HW := StF.below ((HW.drew.alloc _).alloc _) hk | replace HW := StF.below ((HW.alloc _).alloc _).drew hk)
         clear hk)
      | (go_at_call 90; (with_reducible refine (HL.out _ (by first | with_reducible exact M.mono (StF.hb HW) | with_reducible exact M.mono (StF.hb HW.drew) | with_reducible exact M.mono (StF.hb (HW.alloc _)) | with_reducible exact M.mono (StF.hb (HW.drew.alloc _)) | with_reducible exact M.mono (StF.hb (HW.alloc _).drew) | with_reducible exact M.mono (StF.hb ((HW.alloc _).alloc _)) | with_reducible exact M.mono (StF.hb ((HW.drew.alloc _).alloc _)) | with_reducible exact M.mono (StF.hb ((HW.alloc _).alloc _).drew))).mono ?_); rintro e W9 ⟨rfl, hk⟩
         with_reducible (first | replace HW := StF.below HW hk | replace HW := StF.below HW.drew hk | replace HW := StF.below (HW.alloc _) hk | replace HW := StF.below (HW.drew.alloc _) hk | replace HW := StF.below (HW.alloc _).drew hk | replace HW := StF.below ((HW.alloc _).alloc _) hk | replace HW := StF.below ((HW.drew.alloc _).alloc _) hk | replace HW := StF.below ((HW.alloc _).alloc _).drew hk)
         clear hk))
    all_goals
      go_wp2_with fail
      go_meet
      exact ⟨.inr ⟨_, 3, rfl, by decide, Ss.lit _ [t1, t2, fm] _ (by show 0 < 3; decide) (by show 3 ≤ 100; decide)⟩, (by repeat (first | with_reducible exact HW | with_reducible refine StF.drew ?_ | with_reducible refine StF.alloc ?_ _))⟩
  case rest =>
  obtain ⟨HF, HW⟩ := hcut
  obtain ⟨x0, x1, x2, x3, x4, x5, x6, x7, x8, x9, x10, x11, x12⟩ := era_cells HW
  clear HT HL
  rcases HF with ⟨e, _⟩ | ⟨A, n, e, h0, hs⟩
  · cases e
    rename_i h; cases h
  subst e
  have hn : n = 3 := hs.len.symm
  subst hn
  go_wp2_with fail
  go_ret
  exact ⟨_, _, _, rfl, hs, HW.hb⟩
theorem wera_yes (rls fm : ByteArray) (off kind save year mo ki wd da ti re : Int) (t1 t2 ty s1 s2 s3 : ByteArray)
    (HT : Hid (∀ W, MomP W → Calls Tryz.prog 88 #[.int .i64 off] W (RetV W (.string t1))))
    (HL : Hid (∀ W, MomP W → Calls Tryz.prog 90 #[.agg #[.int .i64 off, .int .i64 kind, .int .i64 save, .string rls, .string fm, .bool true, .int .i64 year, .int .i64 mo, .int .i64 ki, .int .i64 wd, .int .i64 da, .int .i64 ti, .int .i64 re]] W (RetV W (.string t2))))
    (HI : Hid (∀ W, MomP W → Calls Tryz.prog 85 #[.int .i64 year] W (RetV W (.string ty))))
    (HS : Hid (∀ W, MomP W → Calls Tryz.prog 87 #[.agg #[.int .i64 mo, .int .i64 ki, .int .i64 wd, .int .i64 da, .int .i64 ti, .int .i64 re]] W (RetSs W [s1, s2, s3])))
    (w : World) (M : MomP w) : Calls Tryz.prog 54 #[.agg #[.int .i64 off, .int .i64 kind, .int .i64 save, .string rls, .string fm, .bool true, .int .i64 year, .int .i64 mo, .int .i64 ki, .int .i64 wd, .int .i64 da, .int .i64 ti, .int .i64 re]] w (RetSs w [t1, t2, fm, ty, s1, s2, s3]) := by
  go_enter Tryz.func54, Tryz.ntmps54
  go_upto_region 1 with (fail)
  have HW : StF w [.int .i64 off, .int .i64 kind, .int .i64 save, .string rls, .string fm, .bool true, .int .i64 year, .int .i64 mo, .int .i64 ki, .int .i64 wd, .int .i64 da, .int .i64 ti, .int .i64 re] (fun _ => True) (w.alloc (.cells #[.int .i64 off, .int .i64 kind, .int .i64 save, .string rls, .string fm, .bool true, .int .i64 year, .int .i64 mo, .int .i64 ki, .int .i64 wd, .int .i64 da, .int .i64 ti, .int .i64 re] 52)) := ⟨monoT, blk_lit w 52 [.int .i64 off, .int .i64 kind, .int .i64 save, .string rls, .string fm, .bool true, .int .i64 year, .int .i64 mo, .int .i64 ki, .int .i64 wd, .int .i64 da, .int .i64 ti, .int .i64 re], below_box w _, trivial⟩
  generalize w.alloc (.cells #[.int .i64 off, .int .i64 kind, .int .i64 save, .string rls, .string fm, .bool true, .int .i64 year, .int .i64 mo, .int .i64 ki, .int .i64 wd, .int .i64 da, .int .i64 ti, .int .i64 re] 52) = W0 at *
  go_cut [3] (fun v3 wx => FullS wx v3 [t1, t2, fm] ∧ StF w [.int .i64 off, .int .i64 kind, .int .i64 save, .string rls, .string fm, .bool true, .int .i64 year, .int .i64 mo, .int .i64 ki, .int .i64 wd, .int .i64 da, .int .i64 ti, .int .i64 re] (fun _ => True) wx)
  case first =>
    go_region_held3 (fun w' => w'.cell? ⟨w.heap.size, 0, none⟩ = some (.int .i64 off) ∧ w'.cell? ⟨w.heap.size, 1, none⟩ = some (.int .i64 kind) ∧ w'.cell? ⟨w.heap.size, 2, none⟩ = some (.int .i64 save) ∧ w'.cell? ⟨w.heap.size, 3, none⟩ = some (.string rls) ∧ w'.cell? ⟨w.heap.size, 4, none⟩ = some (.string fm) ∧ w'.cell? ⟨w.heap.size, 5, none⟩ = some (.bool true) ∧ w'.cell? ⟨w.heap.size, 6, none⟩ = some (.int .i64 year) ∧ w'.cell? ⟨w.heap.size, 7, none⟩ = some (.int .i64 mo) ∧ w'.cell? ⟨w.heap.size, 8, none⟩ = some (.int .i64 ki) ∧ w'.cell? ⟨w.heap.size, 9, none⟩ = some (.int .i64 wd) ∧ w'.cell? ⟨w.heap.size, 10, none⟩ = some (.int .i64 da) ∧ w'.cell? ⟨w.heap.size, 11, none⟩ = some (.int .i64 ti) ∧ w'.cell? ⟨w.heap.size, 12, none⟩ = some (.int .i64 re)) (first | (with_reducible exact era_cells HW) | (with_reducible exact era_cells HW.drew) | (with_reducible exact era_cells (HW.alloc _)) | (with_reducible exact era_cells (HW.drew.alloc _)) | (with_reducible exact era_cells ((HW.alloc _).alloc _)) | (with_reducible exact era_cells ((HW.drew.alloc _).alloc _)) | go_keep)
      (first
      | (go_at_call 88; (with_reducible refine (HT.out _ (by first | with_reducible exact M.mono (StF.hb HW) | with_reducible exact M.mono (StF.hb HW.drew) | with_reducible exact M.mono (StF.hb (HW.alloc _)) | with_reducible exact M.mono (StF.hb (HW.drew.alloc _)) | with_reducible exact M.mono (StF.hb (HW.alloc _).drew) | with_reducible exact M.mono (StF.hb ((HW.alloc _).alloc _)) | with_reducible exact M.mono (StF.hb ((HW.drew.alloc _).alloc _)) | with_reducible exact M.mono (StF.hb ((HW.alloc _).alloc _).drew))).mono ?_); rintro e W9 ⟨rfl, hk⟩
         with_reducible (first | replace HW := StF.below HW hk | replace HW := StF.below HW.drew hk | replace HW := StF.below (HW.alloc _) hk | replace HW := StF.below (HW.drew.alloc _) hk | replace HW := StF.below (HW.alloc _).drew hk | replace HW := StF.below ((HW.alloc _).alloc _) hk | replace HW := StF.below ((HW.drew.alloc _).alloc _) hk | replace HW := StF.below ((HW.alloc _).alloc _).drew hk)
         clear hk)
      | (go_at_call 90; (with_reducible refine (HL.out _ (by first | with_reducible exact M.mono (StF.hb HW) | with_reducible exact M.mono (StF.hb HW.drew) | with_reducible exact M.mono (StF.hb (HW.alloc _)) | with_reducible exact M.mono (StF.hb (HW.drew.alloc _)) | with_reducible exact M.mono (StF.hb (HW.alloc _).drew) | with_reducible exact M.mono (StF.hb ((HW.alloc _).alloc _)) | with_reducible exact M.mono (StF.hb ((HW.drew.alloc _).alloc _)) | with_reducible exact M.mono (StF.hb ((HW.alloc _).alloc _).drew))).mono ?_); rintro e W9 ⟨rfl, hk⟩
         with_reducible (first | replace HW := StF.below HW hk | replace HW := StF.below HW.drew hk | replace HW := StF.below (HW.alloc _) hk | replace HW := StF.below (HW.drew.alloc _) hk | replace HW := StF.below (HW.alloc _).drew hk | replace HW := StF.below ((HW.alloc _).alloc _) hk | replace HW := StF.below ((HW.drew.alloc _).alloc _) hk | replace HW := StF.below ((HW.alloc _).alloc _).drew hk)
         clear hk))
    all_goals
      go_wp2_with fail
      go_meet
      exact ⟨.inr ⟨_, 3, rfl, by decide, Ss.lit _ [t1, t2, fm] _ (by show 0 < 3; decide) (by show 3 ≤ 100; decide)⟩, (by repeat (first | with_reducible exact HW | with_reducible refine StF.drew ?_ | with_reducible refine StF.alloc ?_ _))⟩
  case rest =>
  obtain ⟨HF, HW⟩ := hcut
  obtain ⟨x0, x1, x2, x3, x4, x5, x6, x7, x8, x9, x10, x11, x12⟩ := era_cells HW
  clear HT HL
  replace HW := HW.and (mono_full _ _) HF
  clear HF
  go_wp2_with fail
  go_region_held3 (fun w' => w'.cell? ⟨w.heap.size, 6, none⟩ = some (.int .i64 year) ∧ w'.cell? ⟨w.heap.size, 7, none⟩ = some (.int .i64 mo) ∧ w'.cell? ⟨w.heap.size, 8, none⟩ = some (.int .i64 ki) ∧ w'.cell? ⟨w.heap.size, 9, none⟩ = some (.int .i64 wd) ∧ w'.cell? ⟨w.heap.size, 10, none⟩ = some (.int .i64 da) ∧ w'.cell? ⟨w.heap.size, 11, none⟩ = some (.int .i64 ti) ∧ w'.cell? ⟨w.heap.size, 12, none⟩ = some (.int .i64 re)) (first | (with_reducible exact era_cells3 HW) | (with_reducible exact era_cells3 HW.drew) | (with_reducible exact era_cells3 (HW.alloc _)) | (with_reducible exact era_cells3 (HW.drew.alloc _)) | (with_reducible exact era_cells3 ((HW.alloc _).alloc _)) | (with_reducible exact era_cells3 ((HW.drew.alloc _).alloc _)) | go_keep)
      (first
      | (go_at_call 85; (with_reducible refine (HI.out _ (by first | with_reducible exact M.mono (StF.hb HW) | with_reducible exact M.mono (StF.hb HW.drew) | with_reducible exact M.mono (StF.hb (HW.alloc _)) | with_reducible exact M.mono (StF.hb (HW.drew.alloc _)) | with_reducible exact M.mono (StF.hb (HW.alloc _).drew) | with_reducible exact M.mono (StF.hb ((HW.alloc _).alloc _)) | with_reducible exact M.mono (StF.hb ((HW.drew.alloc _).alloc _)) | with_reducible exact M.mono (StF.hb ((HW.alloc _).alloc _).drew))).mono ?_); rintro e W9 ⟨rfl, hk⟩
         with_reducible (first | replace HW := StF.below HW hk | replace HW := StF.below HW.drew hk | replace HW := StF.below (HW.alloc _) hk | replace HW := StF.below (HW.drew.alloc _) hk | replace HW := StF.below (HW.alloc _).drew hk | replace HW := StF.below ((HW.alloc _).alloc _) hk | replace HW := StF.below ((HW.drew.alloc _).alloc _) hk | replace HW := StF.below ((HW.alloc _).alloc _).drew hk)
         clear hk)
      | (go_at_call 87; (with_reducible refine (HS.out _ (by first | with_reducible exact M.mono (StF.hb HW) | with_reducible exact M.mono (StF.hb HW.drew) | with_reducible exact M.mono (StF.hb (HW.alloc _)) | with_reducible exact M.mono (StF.hb (HW.drew.alloc _)) | with_reducible exact M.mono (StF.hb (HW.alloc _).drew) | with_reducible exact M.mono (StF.hb ((HW.alloc _).alloc _)) | with_reducible exact M.mono (StF.hb ((HW.drew.alloc _).alloc _)) | with_reducible exact M.mono (StF.hb ((HW.alloc _).alloc _).drew))).mono ?_); rintro e W9 ⟨B, m, c, rfl, hs, hk⟩
         have hm : m = 3 := hs.len.symm
         subst hm
         with_reducible (first | replace HW := (StF.below HW hk).and (mono_ss _ _ _ _) hs | replace HW := (StF.below HW.drew hk).and (mono_ss _ _ _ _) hs | replace HW := (StF.below (HW.alloc _) hk).and (mono_ss _ _ _ _) hs | replace HW := (StF.below (HW.drew.alloc _) hk).and (mono_ss _ _ _ _) hs | replace HW := (StF.below (HW.alloc _).drew hk).and (mono_ss _ _ _ _) hs | replace HW := (StF.below ((HW.alloc _).alloc _) hk).and (mono_ss _ _ _ _) hs | replace HW := (StF.below ((HW.drew.alloc _).alloc _) hk).and (mono_ss _ _ _ _) hs | replace HW := (StF.below ((HW.alloc _).alloc _).drew hk).and (mono_ss _ _ _ _) hs)
         clear hk hs)
      | (refine step_app_full _ rfl _ _ rfl u3 [t1, t2, fm] [ty] rfl (by first | with_reducible exact (StF.f HW).2 | with_reducible exact (StF.f HW.drew).2 | with_reducible exact (StF.f (HW.alloc _)).2 | with_reducible exact (StF.f (HW.drew.alloc _)).2 | with_reducible exact (StF.f (HW.alloc _).drew).2 | with_reducible exact (StF.f ((HW.alloc _).alloc _)).2 | with_reducible exact (StF.f ((HW.drew.alloc _).alloc _)).2 | with_reducible exact (StF.f ((HW.alloc _).alloc _).drew).2) _ 1 1 rfl (Ss.litB _ [ty] _ _ (by first | rfl | simp) (by show 0 < 1; decide) (by show 1 ≤ 100; decide)) (by decide) 4 rfl (by decide) ?_; intro b9 cap w' he ho hk
         have lt9 : w.heap.size < b9 := by rw [← he]; first | with_reducible exact (StF.b HW).lt | with_reducible exact (StF.b HW.drew).lt | with_reducible exact (StF.b (HW.alloc _)).lt | with_reducible exact (StF.b (HW.drew.alloc _)).lt | with_reducible exact (StF.b (HW.alloc _).drew).lt | with_reducible exact (StF.b ((HW.alloc _).alloc _)).lt | with_reducible exact (StF.b ((HW.drew.alloc _).alloc _)).lt | with_reducible exact (StF.b ((HW.alloc _).alloc _).drew).lt
         with_reducible (first | replace HW := (StF.below HW hk).and (mono_own2 _ _ _ _) ⟨ho, he ▸ hk.size⟩ | replace HW := (StF.below HW.drew hk).and (mono_own2 _ _ _ _) ⟨ho, he ▸ hk.size⟩ | replace HW := (StF.below (HW.alloc _) hk).and (mono_own2 _ _ _ _) ⟨ho, he ▸ hk.size⟩ | replace HW := (StF.below (HW.drew.alloc _) hk).and (mono_own2 _ _ _ _) ⟨ho, he ▸ hk.size⟩ | replace HW := (StF.below (HW.alloc _).drew hk).and (mono_own2 _ _ _ _) ⟨ho, he ▸ hk.size⟩ | replace HW := (StF.below ((HW.alloc _).alloc _) hk).and (mono_own2 _ _ _ _) ⟨ho, he ▸ hk.size⟩ | replace HW := (StF.below ((HW.drew.alloc _).alloc _) hk).and (mono_own2 _ _ _ _) ⟨ho, he ▸ hk.size⟩ | replace HW := (StF.below ((HW.alloc _).alloc _).drew hk).and (mono_own2 _ _ _ _) ⟨ho, he ▸ hk.size⟩)
         clear hk ho he)
      | (refine step_app_own _ rfl _ _ rfl b9 (.slice (some ⟨b9, 0, none⟩) 4 cap) 4 ([t1, t2, fm] ++ [ty]) [s1, s2, s3] rfl (by first | with_reducible exact (StF.f HW).1.2.1 | with_reducible exact (StF.f HW.drew).1.2.1 | with_reducible exact (StF.f (HW.alloc _)).1.2.1 | with_reducible exact (StF.f (HW.drew.alloc _)).1.2.1 | with_reducible exact (StF.f (HW.alloc _).drew).1.2.1 | with_reducible exact (StF.f ((HW.alloc _).alloc _)).1.2.1 | with_reducible exact (StF.f ((HW.drew.alloc _).alloc _)).1.2.1 | with_reducible exact (StF.f ((HW.alloc _).alloc _).drew).1.2.1) B 3 c rfl (by first | with_reducible exact (StF.f HW).2 | with_reducible exact (StF.f HW.drew).2 | with_reducible exact (StF.f (HW.alloc _)).2 | with_reducible exact (StF.f (HW.drew.alloc _)).2 | with_reducible exact (StF.f (HW.alloc _).drew).2 | with_reducible exact (StF.f ((HW.alloc _).alloc _)).2 | with_reducible exact (StF.f ((HW.drew.alloc _).alloc _)).2 | with_reducible exact (StF.f ((HW.alloc _).alloc _).drew).2) (by decide) 7 rfl (by decide) (by first | with_reducible exact (StF.f HW).1.2.2 | with_reducible exact (StF.f HW.drew).1.2.2 | with_reducible exact (StF.f (HW.alloc _)).1.2.2 | with_reducible exact (StF.f (HW.drew.alloc _)).1.2.2 | with_reducible exact (StF.f (HW.alloc _).drew).1.2.2 | with_reducible exact (StF.f ((HW.alloc _).alloc _)).1.2.2 | with_reducible exact (StF.f ((HW.drew.alloc _).alloc _)).1.2.2 | with_reducible exact (StF.f ((HW.alloc _).alloc _).drew).1.2.2) ?_; intro g cap w' hS hBel hsz
         with_reducible (first | replace HW := StF.app HW lt9 (StF.f HW).1.2.2 hBel | replace HW := StF.app HW.drew lt9 (StF.f HW.drew).1.2.2 hBel | replace HW := StF.app (HW.alloc _) lt9 (StF.f (HW.alloc _)).1.2.2 hBel | replace HW := StF.app (HW.drew.alloc _) lt9 (StF.f (HW.drew.alloc _)).1.2.2 hBel | replace HW := StF.app (HW.alloc _).drew lt9 (StF.f (HW.alloc _).drew).1.2.2 hBel | replace HW := StF.app ((HW.alloc _).alloc _) lt9 (StF.f ((HW.alloc _).alloc _)).1.2.2 hBel | replace HW := StF.app ((HW.drew.alloc _).alloc _) lt9 (StF.f ((HW.drew.alloc _).alloc _)).1.2.2 hBel | replace HW := StF.app ((HW.alloc _).alloc _).drew lt9 (StF.f ((HW.alloc _).alloc _).drew).1.2.2 hBel)))
  all_goals
    go_wp2
    go_ret
    exact ⟨_, _, _, rfl, hS, HW.hb⟩
theorem writtenRuleP (x : Rl) (k : x.ok) (hx : x.in64) (w : World) (M : MomP w) : Calls Tryz.prog 53 #[x.val] w (RetSs w (ruleTexts x)) := by
  have h1 := fun (W : World) (M : MomP W) => itoaY x.fr (by have := k.1.1; omega) (by have := k.1.2; omega) W M.pow
  have h2 := fun (W : World) (M : MomP W) => writtenLastP x k W M
  have h3 := fun (W : World) (M : MomP W) => writtenSpotP x.sp.mo x.sp.ki x.sp.wd x.sp.da x.sp.ti x.sp.re _ _ (Lib.hid fun W (M : MomP W) => (printMP x.sp W M)) W M
  rw [if_pos k.2.2.1] at h3
  have h4 := fun (W : World) (M : MomP W) => timeMP x.save hx.2.2.2.2.1 W M.pow
  have h5 := fun (g o c : Nat) (W : World) (c0 : W.cell? ⟨g, o, none⟩ = some (.string x.letter)) (c1 : W.cell? ⟨g, o + 1, none⟩ = some (.string dashT)) => orP g o c x.letter dashT W c0 c1 (by decide)
  exact wrule_core _ _ _ _ _ _ _ _ _ _ _ _ _ _ _ _ _ _ (Lib.hid h1) (Lib.hid h2) (Lib.hid h3) (Lib.hid h4) (Lib.hid h5) w M
theorem writtenEraP (x : Er) (k : x.ok) (hx : x.in64) (w : World) (M : MomP w) : Calls Tryz.prog 54 #[x.val] w (RetSs w (eraTexts x)) := by
  have h1 := fun (W : World) (M : MomP W) => timeMP x.off hx.1 W M.pow
  have h2 := fun (W : World) (M : MomP W) => writtenSavingP x k W M
  obtain ⟨off, kind, save, rls, fm, til, year, sp⟩ := x
  obtain ⟨mo, ki, wd, da, ti, re⟩ := sp
  cases til with
  | false => exact wera_no _ _ _ _ _ _ _ _ _ _ _ _ _ _ (Lib.hid h1) (Lib.hid h2) w M
  | true =>
    obtain ⟨ky, ks⟩ := k.2.2.2.2.2.2.2.1 rfl
    have h3 := fun (W : World) (M : MomP W) => writtenSpotP mo ki wd da ti re _ _ (Lib.hid fun W (M : MomP W) => (printMP ⟨mo, ki, wd, da, ti, re⟩ W M)) W M
    rw [if_pos ks] at h3
    have h4 := fun (W : World) (M : MomP W) => itoaY year (by have := ky.1; simp only at this; omega) (by have := ky.2; simp only at this; omega) W M.pow
    exact wera_yes _ _ _ _ _ _ _ _ _ _ _ _ _ _ _ _ _ _ (Lib.hid h1) (Lib.hid h2) (Lib.hid h4) (Lib.hid h3) w M
theorem Bld.below {b : Nat} {t : ByteArray} {w W : World} (h : Bld b t w) (k : Below w.heap.size w W) : Bld b t W := by
  have go : ∀ {p : Value}, Lib.BuilderAtF 88 5 b b p (Lib.byteCells t.data.toList) w → Lib.BuilderAtF 88 5 b b p (Lib.byteCells t.data.toList) W := fun h => by
    have lt := h.lt
    obtain ⟨hB, v, hb, hown, hne⟩ := h
    exact ⟨hB, v, (k.block b lt).trans hb, hown.kept (below_own k) (by cases q : v.ownBlock with | none => exact .inl rfl | some k => exact .inr (by intro c; cases c)), hne⟩
  rcases h with h | h
  · exact .inl (go h)
  · exact .inr (go h)
theorem Bld.lt {b : Nat} {t : ByteArray} {w : World} (h : Bld b t w) : b < w.heap.size := by
  rcases h with h | h
  · exact h.lt
  · exact h.lt
theorem writeLineP (b : Nat) (t : ByteArray) (A : Option Addr) (n c : Nat) (l : List ByteArray) (w : World) (h : Bld b t w) (hs : Ss w A n c l) (hl : (∀ t ∈ l, fld 40 t) ∧ l.length ≤ 10) (hlen : t.size ≤ 99000000) :
    Calls Tryz.prog 52 #[.pointer (some ⟨b, 0, none⟩), .slice A n c] w fun e w' => e = .returned (.tuple #[]) ∧ Bld b (t ++ spc l ++ nlT) w' ∧ Below b w w' := by
  have JN := Lib.hid (joinP A n c l w hs (small_line hl.1 hl.2))
  rw [join_line hl.1 hl.2] at JN
  have zl := line_le hl.1 hl.2
  have HB := Lib.hid h
  have lt := h.lt
  have e1 : (t ++ spc l).size = t.size + (spc l).size := size_app _ _
  clear h hs hl
  generalize spc l = s at *
  go_enter Tryz.func52, Tryz.ntmps52
  go_wp2_with first
    | (go_at_call 82; refine JN.out.mono ?_; clear JN; rintro e W1 ⟨rfl, k1⟩; have B1 := HB.out.below k1; have l1 := B1.lt; clear HB)
    | (go_at_call 83; refine (bldText b t s W1 B1 (by omega) (by omega)).mono ?_; rintro e W2 ⟨rfl, B2, k2⟩; have l2 := B2.lt; clear B1)
    | (go_at_call 84; refine (bldByte b (t ++ s) 10 W2 B2 (by omega) (by omega)).mono ?_; rintro e W3 ⟨rfl, B3, k3⟩; clear B2)
  go_end0
  exact ⟨rfl, B3, ((k1.mono (by omega)).trans k2).trans k3⟩
structure PW (w : World) (vals : List Value) (L : List (List ByteArray)) (n : Nat) (X : World) : Prop where
  box : Blk X w.heap.size vals
  bld : Bld (w.heap.size + 1) (textOf L) X
  hb : Below w.heap.size w X
  fine : fineL n L
theorem PW.below {w X X' : World} {vals : List Value} {L : List (List ByteArray)} {n : Nat} (h : PW w vals L n X) (k : Below X.heap.size X X') : PW w vals L n X' := ⟨h.box.below k, h.bld.below k, below_thru h.hb k, h.fine⟩
theorem PW.alloc {w X : World} {vals : List Value} {L : List (List ByteArray)} {n : Nat} (h : PW w vals L n X) (o : Obj) : PW w vals L n (X.alloc o) := h.below (below_box X o)
theorem PW.line {w X X' : World} {vals : List Value} {L : List (List ByteArray)} {n : Nat} (h : PW w vals L n X) {l : List ByteArray} (k : (∀ t ∈ l, fld 40 t) ∧ l.length ≤ 10) (hb : Bld (w.heap.size + 1) (textOf L ++ spc l ++ nlT) X') (hB : Below (w.heap.size + 1) X X') : PW w vals (L ++ [l]) (n + 1) X' :=
  ⟨blk_lo hB (Nat.lt_succ_self _) h.box, by rw [textOf_snoc]; exact hb, h.hb.trans (hB.mono (Nat.le_succ _)), fine_snoc h.fine k⟩
theorem PW.write {w X : World} {vals : List Value} {L : List (List ByteArray)} {n : Nat} (h : PW w vals L n X) (hn : n ≤ 10000) {A : Option Addr} {m c : Nat} {l : List ByteArray} (hs : Ss X A m c l) (k : (∀ t ∈ l, fld 40 t) ∧ l.length ≤ 10) :
    Calls Tryz.prog 52 #[.pointer (some ⟨w.heap.size + 1, 0, none⟩), .slice A m c] X fun e w' => e = .returned (.tuple #[]) ∧ PW w vals (L ++ [l]) (n + 1) w' := by
  have z := fine_size h.fine
  refine (writeLineP _ (textOf L) A m c l X h.bld hs k (by omega)).mono ?_
  rintro e w' ⟨rfl, h1, h2⟩
  exact ⟨rfl, h.line k h1 h2⟩
def lead (z : Zn) (k : Nat) : List ByteArray := if k = 0 then [zoneT, z.name] else []
theorem zoneln_at {z : Zn} {k : Nat} {x : Er} (h : z.eras[k]? = some x) : (zoneLines z)[k]? = some (lead z k ++ eraTexts x) := by
  obtain ⟨nm, es⟩ := z
  cases es with
  | nil => simp at h
  | cons y r =>
    cases k with
    | zero => simp at h; subst h; rfl
    | succ k =>
      have h' : r[k]? = some x := by simpa using h
      show (r.map eraTexts)[k]? = _
      rw [List.getElem?_map, h']
      rfl
theorem zone_len {z : Zn} (h : z.eras ≠ []) : (zoneLines z).length = z.eras.length := by
  obtain ⟨nm, es⟩ := z
  cases es with
  | nil => exact absurd rfl h
  | cons y r => simp [zoneLines]
theorem take_next {α : Type} {l : List α} {k : Nat} {x : α} (h : l[k]? = some x) : l.take (k + 1) = l.take k ++ [x] := by rw [List.take_add_one, h]; rfl
theorem zone_next {z : Zn} {k : Nat} {x : Er} (h : z.eras[k]? = some x) : (zoneLines z).take (k + 1) = (zoneLines z).take k ++ [lead z k ++ eraTexts x] := take_next (zoneln_at h)
theorem flat_next {Z : List Zn} {k : Nat} {z : Zn} (h : Z[k]? = some z) : (Z.take (k + 1)).flatMap zoneLines = (Z.take k).flatMap zoneLines ++ zoneLines z := by
  rw [take_next h, List.flatMap_append]
  simp
theorem lead_line {z : Zn} (hz : z.ok) {k : Nat} {x : Er} (hx : x.ok) : (∀ t ∈ lead z k ++ eraTexts x, fld 40 t) ∧ (lead z k ++ eraTexts x).length ≤ 10 := by
  unfold lead
  by_cases h : k = 0
  · rw [if_pos h]; exact zone_line40 hx hz.1
  · rw [if_neg h, List.nil_append]; exact ⟨(era_line40 hx).1, by have := (era_line40 hx).2; omega⟩
theorem lead_len (z : Zn) (k : Nat) : (lead z k).length ≤ 2 := by
  unfold lead
  split
  · exact Nat.le_refl _
  · exact Nat.zero_le _
theorem written_core (S : Sr) (OK : Hid S.ok) (I64 : Hid S.in64) (A B C : Option Addr) (n c m d q e : Nat) (ze : List Ze) (w : World) (hv : SrcV w S ⟨A, n, c⟩ ⟨B, m, d⟩ ⟨C, q, e⟩ ze) (M : MomP w) :
    Calls Tryz.prog 26 #[.agg #[.slice A n c, .slice B m d, .slice C q e]] w (RetV w (.string (srcText S))) := by
  have lr : S.rules.length = n := by have := hv.rules.len; simpa using this
  have lz : ze.length = m := by have := hv.zones.len; simpa using this
  have ll : S.links.length = q := by have := hv.links.len; simpa using this
  have lS : S.zones.length = m := by rw [← hv.all, List.length_map]; exact lz
  have n200 : n ≤ 200 := by have := OK.out.1; omega
  have m50 : m ≤ 50 := by have := OK.out.2.1; omega
  have q100 : q ≤ 100 := by have := OK.out.2.2.1; omega
  have HV := Lib.hid hv
  have LR := Lib.hid lr
  have LZ := Lib.hid lz
  have LL := Lib.hid ll
  have LS := Lib.hid lS
  clear hv lr lz ll lS
  go_enter Tryz.func26, Tryz.ntmps26
  go_upto_region 2 with (fail)
  have k1 := below_box w (.cells #[.slice A n c, .slice B m d, .slice C q e] 26)
  have kb := blk_lit w 26 [.slice A n c, .slice B m d, .slice C q e]
  have bn := Bld.new (w.alloc (.cells #[.slice A n c, .slice B m d, .slice C q e] 26))
  have k2 := below_box (w.alloc (.cells #[.slice A n c, .slice B m d, .slice C q e] 26)) (.cells #[.pointer none, .slice none 0 0] 88)
  have HP : PW w [.slice A n c, .slice B m d, .slice C q e] ((S.rules.map ruleTexts).take 0) 0 ((w.alloc (.cells #[.slice A n c, .slice B m d, .slice C q e] 26)).alloc (.cells #[.pointer none, .slice none 0 0] 88)) := ⟨kb.below k2, by rw [World.size_alloc] at bn; exact bn, below_thru k1 k2, fine_nil⟩
  generalize ((w.alloc (.cells #[.slice A n c, .slice B m d, .slice C q e] 26)).alloc (.cells #[.pointer none, .slice none 0 0] 88)) = W0 at *
  clear k1 k2 kb bn
  obtain ⟨_, p0, p1, p2, _⟩ := HP.box.three
  go_wp2_with fail
  go_loopw [16] (fun v wr => ∃ k : Nat, k ≤ n ∧ v = .int .i64 k ∧ PW w [.slice A n c, .slice B m d, .slice C q e] ((S.rules.map ruleTexts).take k) k wr) (fun v _ => n - (intOf v).toNat)
  case atStart => exact ⟨0, by omega, rfl, HP⟩
  case round =>
    clear HP p0 p1 p2
    obtain ⟨k, hk, rfl, HP⟩ := hrel
    by_cases h4 : k < n
    · obtain ⟨x, hxx⟩ : ∃ x, S.rules[k]? = some x := ⟨_, List.getElem?_eq_getElem (by rw [LR.out]; exact h4)⟩
      obtain ⟨g, o, ea0, hg, ca⟩ := (HV.out.rules.below HP.hb).cells (by show 0 < n; omega)
      replace ea0 : A = some ⟨g, o, none⟩ := ea0
      subst ea0
      have xm := List.mem_of_getElem? hxx
      have XK := Lib.hid (OK.out.2.2.2.1 x xm)
      have RX0 := fun W (M : MomP W) => writtenRuleP x XK.out (I64.out.1 x xm) W M
      have NX := Lib.hid (take_next (show (S.rules.map ruleTexts)[k]? = some (ruleTexts x) by rw [List.getElem?_map, hxx]; rfl))
      have RL := Lib.hid (rule_line40 XK.out)
      have ra := row_at ca (show (S.rules.map Rl.vals)[k]? = some (Rl.vals x) by rw [List.getElem?_map, hxx]; rfl)
      generalize ruleTexts x = l at *
      obtain ⟨nm, fr, last, ⟨mo, ki, wd, da, ti, re⟩, save, le⟩ := x
      have x0 : wr.cell? ⟨g, o + k * 11, none⟩ = some (.string nm) := ra 0 _ rfl
      have x1 : wr.cell? ⟨g, o + k * 11 + 1, none⟩ = some (.int .i64 fr) := ra 1 _ rfl
      have x2 : wr.cell? ⟨g, o + k * 11 + 2, none⟩ = some (.int .i64 last) := ra 2 _ rfl
      have x3 : wr.cell? ⟨g, o + k * 11 + 3, none⟩ = some (.int .i64 mo) := ra 3 _ rfl
      have x4 : wr.cell? ⟨g, o + k * 11 + 4, none⟩ = some (.int .i64 ki) := ra 4 _ rfl
      have x5 : wr.cell? ⟨g, o + k * 11 + 5, none⟩ = some (.int .i64 wd) := ra 5 _ rfl
      have x6 : wr.cell? ⟨g, o + k * 11 + 6, none⟩ = some (.int .i64 da) := ra 6 _ rfl
      have x7 : wr.cell? ⟨g, o + k * 11 + 7, none⟩ = some (.int .i64 ti) := ra 7 _ rfl
      have x8 : wr.cell? ⟨g, o + k * 11 + 8, none⟩ = some (.int .i64 re) := ra 8 _ rfl
      have x9 : wr.cell? ⟨g, o + k * 11 + 9, none⟩ = some (.int .i64 save) := ra 9 _ rfl
      have x10 : wr.cell? ⟨g, o + k * 11 + 10, none⟩ = some (.string le) := ra 10 _ rfl
      clear ca ra hxx xm XK
      have RX := Lib.hid (show ∀ W, MomP W → Calls Tryz.prog 53 #[.agg #[.string nm, .int .i64 fr, .int .i64 last, .int .i64 mo, .int .i64 ki, .int .i64 wd, .int .i64 da, .int .i64 ti, .int .i64 re, .int .i64 save, .string le]] W (RetSs W l) from RX0)
      clear RX0
      go_upto_region 5 with (fail)
      have KB := blk_lit wr 57 [.string nm, .int .i64 fr, .int .i64 last, .int .i64 mo, .int .i64 ki, .int .i64 wd, .int .i64 da, .int .i64 ti, .int .i64 re, .int .i64 save, .string le]
      have HP1 := HP.alloc (.cells #[.string nm, .int .i64 fr, .int .i64 last, .int .i64 mo, .int .i64 ki, .int .i64 wd, .int .i64 da, .int .i64 ti, .int .i64 re, .int .i64 save, .string le] 57)
      rw [show ([.string nm, .int .i64 fr, .int .i64 last, .int .i64 mo, .int .i64 ki, .int .i64 wd, .int .i64 da, .int .i64 ti, .int .i64 re, .int .i64 save, .string le] : List Value).toArray = #[.string nm, .int .i64 fr, .int .i64 last, .int .i64 mo, .int .i64 ki, .int .i64 wd, .int .i64 da, .int .i64 ti, .int .i64 re, .int .i64 save, .string le] from rfl] at KB
      generalize wr.alloc (.cells #[.string nm, .int .i64 fr, .int .i64 last, .int .i64 mo, .int .i64 ki, .int .i64 wd, .int .i64 da, .int .i64 ti, .int .i64 re, .int .i64 save, .string le] 57) = W at *
      generalize wr.heap.size = bb at *
      clear x0 x1 x2 x3 x4 x5 x6 x7 x8 x9 x10 hg HP
      obtain ⟨y0, y1, y2, y3, y4, y5, y6, y7, y8, y9, y10⟩ := KB.elevenC
      go_wp2_with first
        | (go_at_call 53; refine (RX.out _ (M.mono HP1.hb)).mono ?_; clear RX; rintro e' W2 ⟨A', m', c', rfl, hs, hk2⟩; have HP2 := HP1.below hk2; clear HP1 hk2 y0 y1 y2 y3 y4 y5 y6 y7 y8 y9 y10)
        | (go_at_call 52; refine (HP2.write (by omega) hs RL.out).mono ?_; rintro e' W3 ⟨rfl, HP3⟩; clear HP2 hs)
      go_roundw
      case rel => exact ⟨k + 1, by omega, int_eqS (by omega), by rw [NX.out]; exact HP3⟩
      case measure => simp only [intOf]; omega
    · obtain rfl : k = n := by omega
      have E1 := Lib.hid (show (S.rules.map ruleTexts).take k = S.rules.map ruleTexts by rw [List.take_of_length_le (by rw [List.length_map, LR.out]; exact Nat.le_refl _)])
      rw [E1.out] at HP
      replace HP : PW w [.slice A k c, .slice B m d, .slice C q e] (S.rules.map ruleTexts ++ (S.zones.take 0).flatMap zoneLines) (200 + 40 * 0) wr := ⟨HP.box, by simpa using HP.bld, HP.hb, by have := fine_mono HP.fine (show k ≤ 200 + 40 * 0 by omega); simpa using this⟩
      obtain ⟨_, p0, p1, p2, _⟩ := HP.box.three
      clear h4 E1
      go_wp2_with fail
      go_loopw [27] (fun v wr => ∃ j : Nat, j ≤ m ∧ v = .int .i64 j ∧ PW w [.slice A k c, .slice B m d, .slice C q e] (S.rules.map ruleTexts ++ (S.zones.take j).flatMap zoneLines) (200 + 40 * j) wr) (fun v _ => m - (intOf v).toNat)
      case atStart => exact ⟨0, by omega, rfl, HP⟩
      case round =>
        clear HP p0 p1 p2
        obtain ⟨j, hj, rfl, HP⟩ := hrel
        by_cases h4 : j < m
        · obtain ⟨p, hpp⟩ : ∃ p, ze[j]? = some p := ⟨_, List.getElem?_eq_getElem (by rw [LZ.out]; exact h4)⟩
          have hz : S.zones[j]? = some p.1 := by rw [← HV.out.all, List.getElem?_map, hpp]; rfl
          obtain ⟨g, o, ea0, hg, ca⟩ := (HV.out.zones.below HP.hb).cells (by show 0 < m; omega)
          replace ea0 : B = some ⟨g, o, none⟩ := ea0
          subst ea0
          have pm := List.mem_of_getElem? hpp
          have zm := List.mem_of_getElem? hz
          have ZK := Lib.hid (OK.out.2.2.2.2.1 p.1 zm)
          have ZI := Lib.hid (I64.out.2.1 p.1 zm)
          have FN := Lib.hid (flat_next hz)
          have ER := Lib.hid (HV.out.eras p pm)
          have ra := row_at ca (show (ze.map Ze.vals)[j]? = some (Ze.vals p) by rw [List.getElem?_map, hpp]; rfl)
          obtain ⟨⟨nm, es⟩, ⟨ea, en, ec⟩⟩ := p
          have x0 : wr.cell? ⟨g, o + j * 2, none⟩ = some (.string nm) := ra 0 _ rfl
          have x1 : wr.cell? ⟨g, o + j * 2 + 1, none⟩ = some (.slice ea en ec) := ra 1 _ rfl
          have LE := Lib.hid (show es.length = en by have := ER.out.len; simpa using this)
          have en0 : 0 < en := by
            have h1 := ZK.out.2.2.2
            have h2 := LE.out
            cases es with
            | nil => exact h1.elim
            | cons _ _ => rw [← h2]; simp
          have en40 : en ≤ 40 := by have h1 := ZK.out.2.1; have h2 := LE.out; simp only at h1; omega
          clear ca ra hpp hz pm zm
          go_upto_region 10 with (fail)
          have KB := Blk.new2 wr (.string nm) (.slice ea en ec) 55
          have HP1 := HP.alloc (.cells #[.string nm, .slice ea en ec] 55)
          generalize wr.alloc (.cells #[.string nm, .slice ea en ec] 55) = W at *
          generalize wr.heap.size = bb at *
          clear x0 x1 hg HP
          obtain ⟨_, y0, y1, _⟩ := KB.two
          go_upto_region 11 with (fail)
          have KB2 := KB.below (below_box W (.cells #[.string ⟨#[90, 111, 110, 101]⟩, .string nm] 9))
          have HP2 := HP1.alloc (.cells #[.string ⟨#[90, 111, 110, 101]⟩, .string nm] 9)
          have HF : FullS (W.alloc (.cells #[.string ⟨#[90, 111, 110, 101]⟩, .string nm] 9)) (.slice (some ⟨W.heap.size, 0, none⟩) 2 2) (lead ⟨nm, es⟩ 0) := .inr ⟨_, 2, rfl, by decide, Ss.lit W [zoneT, nm] 9 (by show 0 < 2; decide) (by show 2 ≤ 100; decide)⟩
          generalize W.alloc (.cells #[.string ⟨#[90, 111, 110, 101]⟩, .string nm] 9) = W5 at *
          generalize W.heap.size = b5 at *
          clear KB HP1 y0 y1
          obtain ⟨_, y0, y1, _⟩ := KB2.two
          go_wp2_with fail
          go_loopw [8, 37] (fun v8 v wr => ∃ k2 : Nat, k2 ≤ en ∧ v = .int .i64 k2 ∧ FullS wr v8 (lead ⟨nm, es⟩ k2) ∧ PW w [.slice A k c, .slice (some ⟨g, o, none⟩) m d, .slice C q e] (S.rules.map ruleTexts ++ (S.zones.take j).flatMap zoneLines ++ (zoneLines ⟨nm, es⟩).take k2) (200 + 40 * j + k2) wr) (fun _ v _ => en - (intOf v).toNat)
          case atStart => exact ⟨0, by omega, rfl, HF, ⟨HP2.box, by simpa using HP2.bld, HP2.hb, by simpa using HP2.fine⟩⟩
          case round =>
            clear HP2 HF KB2 y0 y1
            obtain ⟨k2, hk2, rfl, HF, HP⟩ := hrel
            by_cases h5 : k2 < en
            · obtain ⟨x, hxx⟩ : ∃ x, es[k2]? = some x := ⟨_, List.getElem?_eq_getElem (by rw [LE.out]; exact h5)⟩
              obtain ⟨g2, o2, ea0, hg2, ca⟩ := (show Rs 13 wr ea en ec (es.map Er.vals) from ER.out.below HP.hb).cells (by omega)
              subst ea0
              have xm := List.mem_of_getElem? hxx
              have XK := Lib.hid (ZK.out.2.2.1 x xm)
              have RX0 := fun W (M : MomP W) => writtenEraP x XK.out (ZI.out.2.2 x xm) W M
              have NX := Lib.hid (zone_next (z := ⟨nm, es⟩) hxx)
              have RL := Lib.hid (lead_line ZK.out (k := k2) XK.out)
              have EL := Lib.hid (era_len x)
              have ra := row_at ca (show (es.map Er.vals)[k2]? = some (Er.vals x) by rw [List.getElem?_map, hxx]; rfl)
              have DL := Lib.hid (lead_len ⟨nm, es⟩ k2)
              generalize eraTexts x = l at *
              obtain ⟨off, kind, save, rls, fm, til, year, ⟨mo, ki, wd, da, ti, re⟩⟩ := x
              have x0 : wr.cell? ⟨g2, o2 + k2 * 13, none⟩ = some (.int .i64 off) := ra 0 _ rfl
              have x1 : wr.cell? ⟨g2, o2 + k2 * 13 + 1, none⟩ = some (.int .i64 kind) := ra 1 _ rfl
              have x2 : wr.cell? ⟨g2, o2 + k2 * 13 + 2, none⟩ = some (.int .i64 save) := ra 2 _ rfl
              have x3 : wr.cell? ⟨g2, o2 + k2 * 13 + 3, none⟩ = some (.string rls) := ra 3 _ rfl
              have x4 : wr.cell? ⟨g2, o2 + k2 * 13 + 4, none⟩ = some (.string fm) := ra 4 _ rfl
              have x5 : wr.cell? ⟨g2, o2 + k2 * 13 + 5, none⟩ = some (.bool til) := ra 5 _ rfl
              have x6 : wr.cell? ⟨g2, o2 + k2 * 13 + 6, none⟩ = some (.int .i64 year) := ra 6 _ rfl
              have x7 : wr.cell? ⟨g2, o2 + k2 * 13 + 7, none⟩ = some (.int .i64 mo) := ra 7 _ rfl
              have x8 : wr.cell? ⟨g2, o2 + k2 * 13 + 8, none⟩ = some (.int .i64 ki) := ra 8 _ rfl
              have x9 : wr.cell? ⟨g2, o2 + k2 * 13 + 9, none⟩ = some (.int .i64 wd) := ra 9 _ rfl
              have x10 : wr.cell? ⟨g2, o2 + k2 * 13 + 10, none⟩ = some (.int .i64 da) := ra 10 _ rfl
              have x11 : wr.cell? ⟨g2, o2 + k2 * 13 + 11, none⟩ = some (.int .i64 ti) := ra 11 _ rfl
              have x12 : wr.cell? ⟨g2, o2 + k2 * 13 + 12, none⟩ = some (.int .i64 re) := ra 12 _ rfl
              clear ca ra hxx xm XK
              have RX := Lib.hid (show ∀ W, MomP W → Calls Tryz.prog 54 #[.agg #[.int .i64 off, .int .i64 kind, .int .i64 save, .string rls, .string fm, .bool til, .int .i64 year, .int .i64 mo, .int .i64 ki, .int .i64 wd, .int .i64 da, .int .i64 ti, .int .i64 re]] W (RetSs W l) from RX0)
              clear RX0
              go_upto_region 14 with (fail)
              have KB := blk_lit wr 52 [.int .i64 off, .int .i64 kind, .int .i64 save, .string rls, .string fm, .bool til, .int .i64 year, .int .i64 mo, .int .i64 ki, .int .i64 wd, .int .i64 da, .int .i64 ti, .int .i64 re]
              have HP1 := HP.alloc (.cells #[.int .i64 off, .int .i64 kind, .int .i64 save, .string rls, .string fm, .bool til, .int .i64 year, .int .i64 mo, .int .i64 ki, .int .i64 wd, .int .i64 da, .int .i64 ti, .int .i64 re] 52)
              have HF1 := HF.below (below_box wr (.cells #[.int .i64 off, .int .i64 kind, .int .i64 save, .string rls, .string fm, .bool til, .int .i64 year, .int .i64 mo, .int .i64 ki, .int .i64 wd, .int .i64 da, .int .i64 ti, .int .i64 re] 52))
              rw [show ([.int .i64 off, .int .i64 kind, .int .i64 save, .string rls, .string fm, .bool til, .int .i64 year, .int .i64 mo, .int .i64 ki, .int .i64 wd, .int .i64 da, .int .i64 ti, .int .i64 re] : List Value).toArray = #[.int .i64 off, .int .i64 kind, .int .i64 save, .string rls, .string fm, .bool til, .int .i64 year, .int .i64 mo, .int .i64 ki, .int .i64 wd, .int .i64 da, .int .i64 ti, .int .i64 re] from rfl] at KB
              generalize wr.alloc (.cells #[.int .i64 off, .int .i64 kind, .int .i64 save, .string rls, .string fm, .bool til, .int .i64 year, .int .i64 mo, .int .i64 ki, .int .i64 wd, .int .i64 da, .int .i64 ti, .int .i64 re] 52) = W at *
              generalize wr.heap.size = bb2 at *
              clear x0 x1 x2 x3 x4 x5 x6 x7 x8 x9 x10 x11 x12 hg2 HP HF
              obtain ⟨y0, y1, y2, y3, y4, y5, y6, y7, y8, y9, y10, y11, y12⟩ := KB.thirteenC
              go_wp2_with first
                | (go_at_call 54; refine (RX.out _ (M.mono HP1.hb)).mono ?_; clear RX; rintro e' W2 ⟨A', m', c', rfl, hs, hk3⟩; have HP2 := HP1.below hk3; have HF2 := HF1.below hk3; have ml := hs.len; clear HP1 HF1 hk3 y0 y1 y2 y3 y4 y5 y6 y7 y8 y9 y10 y11 y12)
                | (at_builtin; refine wpList_app_full _ rfl _ _ rfl _ (lead ⟨nm, es⟩ k2) l rfl HF2 A' m' c' rfl hs (by have := EL.out; omega) _ rfl (by have := EL.out; have := DL.out; omega) ?_; intro cap W4 ho hk4; have HP3 := HP2.below hk4; obtain ⟨A9, c9, e9, hs9⟩ := Ss.of_own ho; cases e9; clear HP2 HF2 hs ho hk4)
                | (go_at_call 52; refine (HP3.write (by omega) hs9 RL.out).mono ?_; rintro e' W6 ⟨rfl, HP4⟩; clear HP3 hs9)
              go_roundw
              case rel => exact ⟨k2 + 1, by omega, int_eqS (by omega), .inl ⟨rfl, rfl⟩, by rw [NX.out, ← List.append_assoc]; exact HP4⟩
              case measure => simp only [intOf]; omega
            · obtain rfl : k2 = en := by omega
              have E2 := Lib.hid (show (zoneLines ⟨nm, es⟩).take k2 = zoneLines ⟨nm, es⟩ by rw [List.take_of_length_le (by rw [zone_len (by intro c; have := LE.out; simp only at c; rw [c] at this; simp at this; omega)]; simp only; rw [LE.out]; exact Nat.le_refl _)])
              rw [E2.out, List.append_assoc, ← FN.out] at HP
              go_wp2_with fail
              go_roundw
              case rel => exact ⟨j + 1, by omega, int_eqS (by omega), ⟨HP.box, HP.bld, HP.hb, fine_mono HP.fine (by omega)⟩⟩
              case measure => simp only [intOf]; omega
        · obtain rfl : j = m := by omega
          have E2 := Lib.hid (show S.zones.take j = S.zones by rw [List.take_of_length_le (by rw [LS.out]; exact Nat.le_refl _)])
          rw [E2.out] at HP
          replace HP : PW w [.slice A k c, .slice B j d, .slice C q e] (S.rules.map ruleTexts ++ S.zones.flatMap zoneLines ++ (S.links.map linkTexts).take 0) (3000 + 0) wr := ⟨HP.box, by simpa using HP.bld, HP.hb, by have := fine_mono HP.fine (show 200 + 40 * j ≤ 3000 + 0 by omega); simpa using this⟩
          obtain ⟨_, p0, p1, p2, _⟩ := HP.box.three
          clear h4 E2
          go_wp2_with fail
          go_loopw [51] (fun v wr => ∃ i : Nat, i ≤ q ∧ v = .int .i64 i ∧ PW w [.slice A k c, .slice B j d, .slice C q e] (S.rules.map ruleTexts ++ S.zones.flatMap zoneLines ++ (S.links.map linkTexts).take i) (3000 + i) wr) (fun v _ => q - (intOf v).toNat)
          case atStart => exact ⟨0, by omega, rfl, HP⟩
          case round =>
            clear HP p0 p1 p2
            obtain ⟨i, hi, rfl, HP⟩ := hrel
            by_cases h4 : i < q
            · obtain ⟨x, hxx⟩ : ∃ x, S.links[i]? = some x := ⟨_, List.getElem?_eq_getElem (by rw [LL.out]; exact h4)⟩
              obtain ⟨g, o, ea0, hg, ca⟩ := (HV.out.links.below HP.hb).cells (by show 0 < q; omega)
              replace ea0 : C = some ⟨g, o, none⟩ := ea0
              subst ea0
              have xm := List.mem_of_getElem? hxx
              have RL := Lib.hid (link_line40 (OK.out.2.2.2.2.2 x xm))
              have NX := Lib.hid (take_next (show (S.links.map linkTexts)[i]? = some (linkTexts x) by rw [List.getElem?_map, hxx]; rfl))
              have ra := row_at ca (show (S.links.map Lk.vals)[i]? = some (Lk.vals x) by rw [List.getElem?_map, hxx]; rfl)
              obtain ⟨ta, nm⟩ := x
              have x0 : wr.cell? ⟨g, o + i * 2, none⟩ = some (.string ta) := ra 0 _ rfl
              have x1 : wr.cell? ⟨g, o + i * 2 + 1, none⟩ = some (.string nm) := ra 1 _ rfl
              clear ca ra hxx xm
              go_upto_region 21 with (fail)
              have KB := Blk.new2 wr (.string ta) (.string nm) 59
              have HP1 := HP.alloc (.cells #[.string ta, .string nm] 59)
              generalize wr.alloc (.cells #[.string ta, .string nm] 59) = W at *
              generalize wr.heap.size = bb at *
              clear x0 x1 hg HP
              obtain ⟨_, y0, y1, _⟩ := KB.two
              have HP2 := HP1.alloc (.cells #[.string ⟨#[76, 105, 110, 107]⟩, .string ta, .string nm] 9)
              have hs : Ss (W.alloc (.cells #[.string ⟨#[76, 105, 110, 107]⟩, .string ta, .string nm] 9)) (some ⟨W.heap.size, 0, none⟩) 3 3 (linkTexts ⟨ta, nm⟩) := Ss.lit W (linkTexts ⟨ta, nm⟩) 9 (by show 0 < 3; decide) (by show 3 ≤ 100; decide)
              go_wp2_with (go_at_call 52; refine (HP2.write (by omega) hs RL.out).mono ?_; rintro e' W3 ⟨rfl, HP3⟩; clear HP2 hs)
              go_roundw
              case rel => exact ⟨i + 1, by omega, int_eqS (by omega), by rw [NX.out, ← List.append_assoc]; exact HP3⟩
              case measure => simp only [intOf]; omega
            · obtain rfl : i = q := by omega
              have E3 := Lib.hid (show (S.links.map linkTexts).take i = S.links.map linkTexts by rw [List.take_of_length_le (by rw [List.length_map, LL.out]; exact Nat.le_refl _)])
              rw [E3.out] at HP
              have lt := HP.bld.lt
              have DN := Lib.hid (bldDone _ _ _ HP.bld (by omega))
              go_wp2_with (go_at_call 55; refine DN.out.mono ?_; clear DN; rintro e' W7 ⟨rfl, hk7⟩)
              go_ret
              exact ⟨congrArg (fun t => Ending.returned (Value.string t)) (show textOf (S.rules.map ruleTexts ++ (S.zones.flatMap zoneLines ++ S.links.map linkTexts)) = srcText S by unfold srcText srcLines; rw [List.append_assoc]), HP.hb.trans (hk7.mono (by omega))⟩
end Go.Proofs.YtnkmlfbnfndfpaaGreatDoor
