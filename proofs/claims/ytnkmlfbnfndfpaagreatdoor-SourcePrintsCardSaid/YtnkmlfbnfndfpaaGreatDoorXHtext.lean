/- The document's answer of layer 10: a right source's text. -/
import Derived.Test.YtnkmlfbnfndfpaaGreatDoorXHsum
import Derived.Test.YtnkmlfbnfndfpaaGreatDoorXHsame
set_option maxRecDepth 100000
set_option maxHeartbeats 64000000
namespace Go.Proofs.YtnkmlfbnfndfpaaGreatDoor
open Go.RowKit
theorem mono_st (w : World) (vals : List Value) : MonoF (StF w vals (fun _ => True)) := fun _ _ h k => h.below k
theorem text_core (S : Sr) (OK : Hid S.ok) (A B C : Option Addr) (n c m d q e : Nat) (ze : List Ze) (w : World) (hv : SrcV w S ⟨A, n, c⟩ ⟨B, m, d⟩ ⟨C, q, e⟩ ze) :
    Calls Tryz.prog 27 #[.agg #[.slice A n c, .slice B m d, .slice C q e]] w (RetV w (.string (srcText S))) := by
  have lr : S.rules.length = n := by have := hv.rules.len; simpa using this
  have lz : ze.length = m := by have := hv.zones.len; simpa using this
  have ll : S.links.length = q := by have := hv.links.len; simpa using this
  have lS : S.zones.length = m := by rw [← hv.all, List.length_map]; exact lz
  have n200 : n ≤ 200 := by have := OK.out.1; omega
  have m50 : m ≤ 50 := by have := OK.out.2.1; omega
  have q100 : q ≤ 100 := by have := OK.out.2.2.1; omega
  have HV := Lib.hid hv
  have LR := Lib.hid lr
  have LZ := Lib.hid lz
  have LL := Lib.hid ll
  have LS := Lib.hid lS
  clear hv lr lz ll lS
  go_enter Tryz.func27, Tryz.ntmps27
  go_upto_region 1 with (fail)
  have HP : StF w [.slice A n c, .slice B m d, .slice C q e] (fun _ => True) (w.alloc (.cells #[.slice A n c, .slice B m d, .slice C q e] 26)) := ⟨monoT, blk_lit w 26 [.slice A n c, .slice B m d, .slice C q e], below_box w _, trivial⟩
  generalize w.alloc (.cells #[.slice A n c, .slice B m d, .slice C q e] 26) = W0 at *
  obtain ⟨_, p0, p1, p2, _⟩ := HP.b.three
  go_wp2_with fail
  go_loopw [3, 4] (fun vo v wr => ∃ (k : Nat) (o : ByteArray), k ≤ n ∧ v = .int .i64 k ∧ vo = .string o ∧ o = textOf ((S.rules.map ruleTexts).take k) ∧ o.size ≤ 600 * k ∧ StF w [.slice A n c, .slice B m d, .slice C q e] (fun _ => True) wr) (fun _ v _ => n - (intOf v).toNat)
  case atStart => exact ⟨0, ⟨#[]⟩, by omega, rfl, rfl, rfl, Nat.le_refl _, HP⟩
  case round =>
    clear HP p0 p1 p2
    obtain ⟨k, o, hk, rfl, rfl, ho, zo, HP⟩ := hrel
    have HO := Lib.hid ho
    clear ho
    obtain ⟨_, p0, p1, p2, _⟩ := HP.b.three
    by_cases h4 : k < n
    · obtain ⟨x, hxx⟩ : ∃ x, S.rules[k]? = some x := ⟨_, List.getElem?_eq_getElem (by rw [LR.out]; exact h4)⟩
      obtain ⟨g, o9, ea0, hg, ca⟩ := (HV.out.rules.below HP.hb).cells (by show 0 < n; omega)
      replace ea0 : A = some ⟨g, o9, none⟩ := ea0
      subst ea0
      have mx : c ≤ 9223372036854775807 := HV.out.rules.max
      have cn : n ≤ c := HV.out.rules.cap
      have xm := List.mem_of_getElem? hxx
      have XK := OK.out.2.2.2.1 x xm
      have TX := Lib.hid ((rule_sum x o).trans (show o ++ spc (ruleTexts x) ++ nlT = textOf ((S.rules.map ruleTexts).take (k + 1)) by rw [HO.out, take_next (show (S.rules.map ruleTexts)[k]? = some (ruleTexts x) by rw [List.getElem?_map, hxx]; rfl), textOf_snoc]))
      have zn := (set_bare XK.2.2.2.2.1).2.1
      have z1 := yearT_le (n := x.fr) XK.1.1 (by have := XK.1.2; omega)
      have z2 := until_le XK
      have z3 := threeT_le XK.2.2.1
      have z4 := timeB_le x.save (by have := XK.2.2.2.1.1; omega) (by have := XK.2.2.2.1.2; omega)
      have z5 : (dashB x.letter).size ≤ 20 := dash_le (by
        rcases XK.2.2.2.2.2.2 with h | h
        · rw [h]; decide
        · have := (letters_bare h).2.1; omega)
      have D1 := Lib.hid (digY x.fr XK.1.1 (by have := XK.1.2; omega))
      have D2 := Lib.hid (digY x.last XK.2.1.1 (by have := XK.2.1.2; omega))
      have D3 := Lib.hid (fun W => threeR XK.2.2.1 W)
      have D4 := Lib.hid (fun W => timeR x.save (by have := XK.2.2.2.1.1; omega) (by have := XK.2.2.2.1.2; omega) W)
      have D5 := Lib.hid (fun W => dashR x.letter W)
      have ra := row_at ca (show (S.rules.map Rl.vals)[k]? = some (Rl.vals x) by rw [List.getElem?_map, hxx]; rfl)
      obtain ⟨nm, fr, last, ⟨mo, ki, wd, da, ti, re⟩, save, le⟩ := x
      have x0 : wr.cell? ⟨g, o9 + k * 11, none⟩ = some (.string nm) := ra 0 _ rfl
      have x1 : wr.cell? ⟨g, o9 + k * 11 + 1, none⟩ = some (.int .i64 fr) := ra 1 _ rfl
      have x2 : wr.cell? ⟨g, o9 + k * 11 + 2, none⟩ = some (.int .i64 last) := ra 2 _ rfl
      have x3 : wr.cell? ⟨g, o9 + k * 11 + 3, none⟩ = some (.int .i64 mo) := ra 3 _ rfl
      have x4 : wr.cell? ⟨g, o9 + k * 11 + 4, none⟩ = some (.int .i64 ki) := ra 4 _ rfl
      have x5 : wr.cell? ⟨g, o9 + k * 11 + 5, none⟩ = some (.int .i64 wd) := ra 5 _ rfl
      have x6 : wr.cell? ⟨g, o9 + k * 11 + 6, none⟩ = some (.int .i64 da) := ra 6 _ rfl
      have x7 : wr.cell? ⟨g, o9 + k * 11 + 7, none⟩ = some (.int .i64 ti) := ra 7 _ rfl
      have x8 : wr.cell? ⟨g, o9 + k * 11 + 8, none⟩ = some (.int .i64 re) := ra 8 _ rfl
      have x9 : wr.cell? ⟨g, o9 + k * 11 + 9, none⟩ = some (.int .i64 save) := ra 9 _ rfl
      have x10 : wr.cell? ⟨g, o9 + k * 11 + 10, none⟩ = some (.string le) := ra 10 _ rfl
      replace D3 := Lib.hid (show ∀ W, Calls Tryz.prog 57 #[.agg #[.int .i64 mo, .int .i64 ki, .int .i64 wd, .int .i64 da, .int .i64 ti, .int .i64 re]] W (RetV W (.string (threeT ⟨mo, ki, wd, da, ti, re⟩))) from D3.out)
      have K2 := XK.2.1
      have K1 := XK.1
      clear ca ra hxx xm XK
      unfold untilT at TX z2
      simp only at TX z1 z2 z3 z4 z5 zn D1 D2 D4 D5 K1 K2
      go_upto_region 6 with (fail)
      have HW : StF wr [.string nm, .int .i64 fr, .int .i64 last, .int .i64 mo, .int .i64 ki, .int .i64 wd, .int .i64 da, .int .i64 ti, .int .i64 re, .int .i64 save, .string le] (StF w [.slice (some ⟨g, o9, none⟩) n c, .slice B m d, .slice C q e] (fun _ => True)) (wr.alloc (.cells #[.string nm, .int .i64 fr, .int .i64 last, .int .i64 mo, .int .i64 ki, .int .i64 wd, .int .i64 da, .int .i64 ti, .int .i64 re, .int .i64 save, .string le] 57)) := ⟨mono_st _ _, blk_lit wr 57 [.string nm, .int .i64 fr, .int .i64 last, .int .i64 mo, .int .i64 ki, .int .i64 wd, .int .i64 da, .int .i64 ti, .int .i64 re, .int .i64 save, .string le], below_box wr _, HP.alloc _⟩
      generalize wr.alloc (.cells #[.string nm, .int .i64 fr, .int .i64 last, .int .i64 mo, .int .i64 ki, .int .i64 wd, .int .i64 da, .int .i64 ti, .int .i64 re, .int .i64 save, .string le] 57) = W at *
      clear x0 x1 x2 x3 x4 x5 x6 x7 x8 x9 x10 hg HP p0 p1 p2
      obtain ⟨y0, y1, y2, y3, y4, y5, y6, y7, y8, y9, y10⟩ := rule_cells HW
      generalize yearT fr = t1 at *
      generalize threeT ⟨mo, ki, wd, da, ti, re⟩ = t3 at *
      generalize timeB save = t4 at *
      generalize dashB le = t5 at *
      by_cases f2 : last = 1000000
      · have l0 : (last == fr) = false := beq_eq_false_iff_ne.2 (by omega)
        have l1 : (last == 1000000) = true := beq_iff_eq.2 f2
        rw [if_neg (by omega), if_pos f2] at TX z2
        unfold maxT at TX z2
        clear f2 K1 K2
        generalize yearT last = t9 at *
        have sz := zo
        have qz : (⟨#[82, 117, 108, 101, 32]⟩ : ByteArray).size = 5 := rfl
        have c0 := fun W => run_string_add_sum (P := Tryz.prog) W o ⟨#[82, 117, 108, 101, 32]⟩ (by omega)
        replace sz : (o ++ ⟨#[82, 117, 108, 101, 32]⟩).size ≤ 600 * k + 5 := by rw [ByteArray.size_append]; omega
        clear qz
        generalize o ++ ⟨#[82, 117, 108, 101, 32]⟩ = ca0 at *
        have qz : (nm : ByteArray).size ≤ 20 := by omega
        have c1 := fun W => run_string_add_sum (P := Tryz.prog) W ca0 nm (by omega)
        replace sz : (ca0 ++ nm).size ≤ 600 * k + 25 := by rw [ByteArray.size_append]; omega
        clear qz
        generalize ca0 ++ nm = ca1 at *
        have qz : (⟨#[32]⟩ : ByteArray).size = 1 := rfl
        have c2 := fun W => run_string_add_sum (P := Tryz.prog) W ca1 ⟨#[32]⟩ (by omega)
        replace sz : (ca1 ++ ⟨#[32]⟩).size ≤ 600 * k + 26 := by rw [ByteArray.size_append]; omega
        clear qz
        generalize ca1 ++ ⟨#[32]⟩ = ca2 at *
        have qz : (t1 : ByteArray).size ≤ 20 := by omega
        have c3 := fun W => run_string_add_sum (P := Tryz.prog) W ca2 t1 (by omega)
        replace sz : (ca2 ++ t1).size ≤ 600 * k + 46 := by rw [ByteArray.size_append]; omega
        clear qz
        generalize ca2 ++ t1 = ca3 at *
        have qz : (⟨#[32]⟩ : ByteArray).size = 1 := rfl
        have c4 := fun W => run_string_add_sum (P := Tryz.prog) W ca3 ⟨#[32]⟩ (by omega)
        replace sz : (ca3 ++ ⟨#[32]⟩).size ≤ 600 * k + 47 := by rw [ByteArray.size_append]; omega
        clear qz
        generalize ca3 ++ ⟨#[32]⟩ = ca4 at *
        have qz : (⟨#[109, 97, 120]⟩ : ByteArray).size = 3 := rfl
        have c5 := fun W => run_string_add_sum (P := Tryz.prog) W ca4 ⟨#[109, 97, 120]⟩ (by omega)
        replace sz : (ca4 ++ ⟨#[109, 97, 120]⟩).size ≤ 600 * k + 50 := by rw [ByteArray.size_append]; omega
        clear qz
        generalize ca4 ++ ⟨#[109, 97, 120]⟩ = ca5 at *
        have qz : (⟨#[32, 45]⟩ : ByteArray).size = 2 := rfl
        have c6 := fun W => run_string_add_sum (P := Tryz.prog) W ca5 ⟨#[32, 45]⟩ (by omega)
        replace sz : (ca5 ++ ⟨#[32, 45]⟩).size ≤ 600 * k + 52 := by rw [ByteArray.size_append]; omega
        clear qz
        generalize ca5 ++ ⟨#[32, 45]⟩ = ca6 at *
        have qz : (t3 : ByteArray).size ≤ 70 := by omega
        have c7 := fun W => run_string_add_sum (P := Tryz.prog) W ca6 t3 (by omega)
        replace sz : (ca6 ++ t3).size ≤ 600 * k + 122 := by rw [ByteArray.size_append]; omega
        clear qz
        generalize ca6 ++ t3 = ca7 at *
        have qz : (⟨#[32]⟩ : ByteArray).size = 1 := rfl
        have c8 := fun W => run_string_add_sum (P := Tryz.prog) W ca7 ⟨#[32]⟩ (by omega)
        replace sz : (ca7 ++ ⟨#[32]⟩).size ≤ 600 * k + 123 := by rw [ByteArray.size_append]; omega
        clear qz
        generalize ca7 ++ ⟨#[32]⟩ = ca8 at *
        have qz : (t4 : ByteArray).size ≤ 26 := by omega
        have c9 := fun W => run_string_add_sum (P := Tryz.prog) W ca8 t4 (by omega)
        replace sz : (ca8 ++ t4).size ≤ 600 * k + 149 := by rw [ByteArray.size_append]; omega
        clear qz
        generalize ca8 ++ t4 = ca9 at *
        have qz : (⟨#[32]⟩ : ByteArray).size = 1 := rfl
        have c10 := fun W => run_string_add_sum (P := Tryz.prog) W ca9 ⟨#[32]⟩ (by omega)
        replace sz : (ca9 ++ ⟨#[32]⟩).size ≤ 600 * k + 150 := by rw [ByteArray.size_append]; omega
        clear qz
        generalize ca9 ++ ⟨#[32]⟩ = ca10 at *
        have qz : (t5 : ByteArray).size ≤ 20 := by omega
        have c11 := fun W => run_string_add_sum (P := Tryz.prog) W ca10 t5 (by omega)
        replace sz : (ca10 ++ t5).size ≤ 600 * k + 170 := by rw [ByteArray.size_append]; omega
        clear qz
        generalize ca10 ++ t5 = ca11 at *
        have qz : (⟨#[10]⟩ : ByteArray).size = 1 := rfl
        have c12 := fun W => run_string_add_sum (P := Tryz.prog) W ca11 ⟨#[10]⟩ (by omega)
        replace sz : (ca11 ++ ⟨#[10]⟩).size ≤ 600 * k + 171 := by rw [ByteArray.size_append]; omega
        clear qz
        generalize ca11 ++ ⟨#[10]⟩ = ca12 at *
        have cZ := Lib.hid sz
        clear sz
        go_wp2_with (go_at_call 56; refine (D2.out _).mono ?_; rintro e9 W9 ⟨rfl, hk⟩; replace HW := HW.below hk; clear hk y0 y1 y2 y3 y4 y5 y6 y7 y8 y9 y10; obtain ⟨y0, y1, y2, y3, y4, y5, y6, y7, y8, y9, y10⟩ := rule_cells HW)
        go_region_held3 (fun w' => w'.cell? ⟨wr.heap.size, 0, none⟩ = some (.string nm) ∧ w'.cell? ⟨wr.heap.size, 1, none⟩ = some (.int .i64 fr) ∧ w'.cell? ⟨wr.heap.size, 2, none⟩ = some (.int .i64 last) ∧ w'.cell? ⟨wr.heap.size, 3, none⟩ = some (.int .i64 mo) ∧ w'.cell? ⟨wr.heap.size, 4, none⟩ = some (.int .i64 ki) ∧ w'.cell? ⟨wr.heap.size, 5, none⟩ = some (.int .i64 wd) ∧ w'.cell? ⟨wr.heap.size, 6, none⟩ = some (.int .i64 da) ∧ w'.cell? ⟨wr.heap.size, 7, none⟩ = some (.int .i64 ti) ∧ w'.cell? ⟨wr.heap.size, 8, none⟩ = some (.int .i64 re) ∧ w'.cell? ⟨wr.heap.size, 9, none⟩ = some (.int .i64 save) ∧ w'.cell? ⟨wr.heap.size, 10, none⟩ = some (.string le)) (first | (with_reducible exact rule_cells HW) | (with_reducible exact rule_cells HW.drew) | (with_reducible exact rule_cells (HW.alloc _)) | (with_reducible exact rule_cells (HW.drew.alloc _)) | (with_reducible exact rule_cells (HW.alloc _).drew) | go_keep)
          (first
          | (go_at_call 56; (with_reducible refine (D1.out _).mono ?_); rintro e9 W9 ⟨rfl, hk⟩
             with_reducible (first | replace HW := StF.below HW hk | replace HW := StF.below HW.drew hk | replace HW := StF.below (HW.alloc _) hk | replace HW := StF.below (HW.drew.alloc _) hk | replace HW := StF.below (HW.alloc _).drew hk)
             clear hk)
          | (go_at_call 57; (with_reducible refine (D3.out _).mono ?_); rintro e9 W9 ⟨rfl, hk⟩
             with_reducible (first | replace HW := StF.below HW hk | replace HW := StF.below HW.drew hk | replace HW := StF.below (HW.alloc _) hk | replace HW := StF.below (HW.drew.alloc _) hk | replace HW := StF.below (HW.alloc _).drew hk)
             clear hk)
          | (go_at_call 58; (with_reducible refine (D4.out _).mono ?_); rintro e9 W9 ⟨rfl, hk⟩
             with_reducible (first | replace HW := StF.below HW hk | replace HW := StF.below HW.drew hk | replace HW := StF.below (HW.alloc _) hk | replace HW := StF.below (HW.drew.alloc _) hk | replace HW := StF.below (HW.alloc _).drew hk)
             clear hk)
          | (go_at_call 59; (with_reducible refine (D5.out _).mono ?_); rintro e9 W9 ⟨rfl, rfl⟩))
        all_goals
          go_wp2_with fail
          go_roundw
          case rel => exact ⟨k + 1, ca12, by omega, int_is (by omega), rfl, TX.out, by have := cZ.out; omega, HW.f⟩
          case measure => simp only [intOf]; omega
      have l1 : (last == 1000000) = false := beq_eq_false_iff_ne.2 f2
      by_cases f1 : last = fr
      · have l0 : (last == fr) = true := beq_iff_eq.2 f1
        rw [if_pos f1] at TX z2
        unfold onlyT at TX z2
        clear f1 f2 K1 K2
        generalize yearT last = t9 at *
        have sz := zo
        have qz : (⟨#[82, 117, 108, 101, 32]⟩ : ByteArray).size = 5 := rfl
        have c0 := fun W => run_string_add_sum (P := Tryz.prog) W o ⟨#[82, 117, 108, 101, 32]⟩ (by omega)
        replace sz : (o ++ ⟨#[82, 117, 108, 101, 32]⟩).size ≤ 600 * k + 5 := by rw [ByteArray.size_append]; omega
        clear qz
        generalize o ++ ⟨#[82, 117, 108, 101, 32]⟩ = ca0 at *
        have qz : (nm : ByteArray).size ≤ 20 := by omega
        have c1 := fun W => run_string_add_sum (P := Tryz.prog) W ca0 nm (by omega)
        replace sz : (ca0 ++ nm).size ≤ 600 * k + 25 := by rw [ByteArray.size_append]; omega
        clear qz
        generalize ca0 ++ nm = ca1 at *
        have qz : (⟨#[32]⟩ : ByteArray).size = 1 := rfl
        have c2 := fun W => run_string_add_sum (P := Tryz.prog) W ca1 ⟨#[32]⟩ (by omega)
        replace sz : (ca1 ++ ⟨#[32]⟩).size ≤ 600 * k + 26 := by rw [ByteArray.size_append]; omega
        clear qz
        generalize ca1 ++ ⟨#[32]⟩ = ca2 at *
        have qz : (t1 : ByteArray).size ≤ 20 := by omega
        have c3 := fun W => run_string_add_sum (P := Tryz.prog) W ca2 t1 (by omega)
        replace sz : (ca2 ++ t1).size ≤ 600 * k + 46 := by rw [ByteArray.size_append]; omega
        clear qz
        generalize ca2 ++ t1 = ca3 at *
        have qz : (⟨#[32]⟩ : ByteArray).size = 1 := rfl
        have c4 := fun W => run_string_add_sum (P := Tryz.prog) W ca3 ⟨#[32]⟩ (by omega)
        replace sz : (ca3 ++ ⟨#[32]⟩).size ≤ 600 * k + 47 := by rw [ByteArray.size_append]; omega
        clear qz
        generalize ca3 ++ ⟨#[32]⟩ = ca4 at *
        have qz : (⟨#[111, 110, 108, 121]⟩ : ByteArray).size = 4 := rfl
        have c5 := fun W => run_string_add_sum (P := Tryz.prog) W ca4 ⟨#[111, 110, 108, 121]⟩ (by omega)
        replace sz : (ca4 ++ ⟨#[111, 110, 108, 121]⟩).size ≤ 600 * k + 51 := by rw [ByteArray.size_append]; omega
        clear qz
        generalize ca4 ++ ⟨#[111, 110, 108, 121]⟩ = ca5 at *
        have qz : (⟨#[32, 45]⟩ : ByteArray).size = 2 := rfl
        have c6 := fun W => run_string_add_sum (P := Tryz.prog) W ca5 ⟨#[32, 45]⟩ (by omega)
        replace sz : (ca5 ++ ⟨#[32, 45]⟩).size ≤ 600 * k + 53 := by rw [ByteArray.size_append]; omega
        clear qz
        generalize ca5 ++ ⟨#[32, 45]⟩ = ca6 at *
        have qz : (t3 : ByteArray).size ≤ 70 := by omega
        have c7 := fun W => run_string_add_sum (P := Tryz.prog) W ca6 t3 (by omega)
        replace sz : (ca6 ++ t3).size ≤ 600 * k + 123 := by rw [ByteArray.size_append]; omega
        clear qz
        generalize ca6 ++ t3 = ca7 at *
        have qz : (⟨#[32]⟩ : ByteArray).size = 1 := rfl
        have c8 := fun W => run_string_add_sum (P := Tryz.prog) W ca7 ⟨#[32]⟩ (by omega)
        replace sz : (ca7 ++ ⟨#[32]⟩).size ≤ 600 * k + 124 := by rw [ByteArray.size_append]; omega
        clear qz
        generalize ca7 ++ ⟨#[32]⟩ = ca8 at *
        have qz : (t4 : ByteArray).size ≤ 26 := by omega
        have c9 := fun W => run_string_add_sum (P := Tryz.prog) W ca8 t4 (by omega)
        replace sz : (ca8 ++ t4).size ≤ 600 * k + 150 := by rw [ByteArray.size_append]; omega
        clear qz
        generalize ca8 ++ t4 = ca9 at *
        have qz : (⟨#[32]⟩ : ByteArray).size = 1 := rfl
        have c10 := fun W => run_string_add_sum (P := Tryz.prog) W ca9 ⟨#[32]⟩ (by omega)
        replace sz : (ca9 ++ ⟨#[32]⟩).size ≤ 600 * k + 151 := by rw [ByteArray.size_append]; omega
        clear qz
        generalize ca9 ++ ⟨#[32]⟩ = ca10 at *
        have qz : (t5 : ByteArray).size ≤ 20 := by omega
        have c11 := fun W => run_string_add_sum (P := Tryz.prog) W ca10 t5 (by omega)
        replace sz : (ca10 ++ t5).size ≤ 600 * k + 171 := by rw [ByteArray.size_append]; omega
        clear qz
        generalize ca10 ++ t5 = ca11 at *
        have qz : (⟨#[10]⟩ : ByteArray).size = 1 := rfl
        have c12 := fun W => run_string_add_sum (P := Tryz.prog) W ca11 ⟨#[10]⟩ (by omega)
        replace sz : (ca11 ++ ⟨#[10]⟩).size ≤ 600 * k + 172 := by rw [ByteArray.size_append]; omega
        clear qz
        generalize ca11 ++ ⟨#[10]⟩ = ca12 at *
        have cZ := Lib.hid sz
        clear sz
        go_wp2_with (go_at_call 56; refine (D2.out _).mono ?_; rintro e9 W9 ⟨rfl, hk⟩; replace HW := HW.below hk; clear hk y0 y1 y2 y3 y4 y5 y6 y7 y8 y9 y10; obtain ⟨y0, y1, y2, y3, y4, y5, y6, y7, y8, y9, y10⟩ := rule_cells HW)
        go_region_held3 (fun w' => w'.cell? ⟨wr.heap.size, 0, none⟩ = some (.string nm) ∧ w'.cell? ⟨wr.heap.size, 1, none⟩ = some (.int .i64 fr) ∧ w'.cell? ⟨wr.heap.size, 2, none⟩ = some (.int .i64 last) ∧ w'.cell? ⟨wr.heap.size, 3, none⟩ = some (.int .i64 mo) ∧ w'.cell? ⟨wr.heap.size, 4, none⟩ = some (.int .i64 ki) ∧ w'.cell? ⟨wr.heap.size, 5, none⟩ = some (.int .i64 wd) ∧ w'.cell? ⟨wr.heap.size, 6, none⟩ = some (.int .i64 da) ∧ w'.cell? ⟨wr.heap.size, 7, none⟩ = some (.int .i64 ti) ∧ w'.cell? ⟨wr.heap.size, 8, none⟩ = some (.int .i64 re) ∧ w'.cell? ⟨wr.heap.size, 9, none⟩ = some (.int .i64 save) ∧ w'.cell? ⟨wr.heap.size, 10, none⟩ = some (.string le)) (first | (with_reducible exact rule_cells HW) | (with_reducible exact rule_cells HW.drew) | (with_reducible exact rule_cells (HW.alloc _)) | (with_reducible exact rule_cells (HW.drew.alloc _)) | (with_reducible exact rule_cells (HW.alloc _).drew) | go_keep)
          (first
          | (go_at_call 56; (with_reducible refine (D1.out _).mono ?_); rintro e9 W9 ⟨rfl, hk⟩
             with_reducible (first | replace HW := StF.below HW hk | replace HW := StF.below HW.drew hk | replace HW := StF.below (HW.alloc _) hk | replace HW := StF.below (HW.drew.alloc _) hk | replace HW := StF.below (HW.alloc _).drew hk)
             clear hk)
          | (go_at_call 57; (with_reducible refine (D3.out _).mono ?_); rintro e9 W9 ⟨rfl, hk⟩
             with_reducible (first | replace HW := StF.below HW hk | replace HW := StF.below HW.drew hk | replace HW := StF.below (HW.alloc _) hk | replace HW := StF.below (HW.drew.alloc _) hk | replace HW := StF.below (HW.alloc _).drew hk)
             clear hk)
          | (go_at_call 58; (with_reducible refine (D4.out _).mono ?_); rintro e9 W9 ⟨rfl, hk⟩
             with_reducible (first | replace HW := StF.below HW hk | replace HW := StF.below HW.drew hk | replace HW := StF.below (HW.alloc _) hk | replace HW := StF.below (HW.drew.alloc _) hk | replace HW := StF.below (HW.alloc _).drew hk)
             clear hk)
          | (go_at_call 59; (with_reducible refine (D5.out _).mono ?_); rintro e9 W9 ⟨rfl, rfl⟩))
        all_goals
          go_wp2_with fail
          go_roundw
          case rel => exact ⟨k + 1, ca12, by omega, int_is (by omega), rfl, TX.out, by have := cZ.out; omega, HW.f⟩
          case measure => simp only [intOf]; omega
      · have l0 : (last == fr) = false := beq_eq_false_iff_ne.2 f1
        rw [if_neg f1, if_neg f2] at TX z2
        clear f1 f2 K1 K2
        generalize yearT last = t2 at *
        have sz := zo
        have qz : (⟨#[82, 117, 108, 101, 32]⟩ : ByteArray).size = 5 := rfl
        have c0 := fun W => run_string_add_sum (P := Tryz.prog) W o ⟨#[82, 117, 108, 101, 32]⟩ (by omega)
        replace sz : (o ++ ⟨#[82, 117, 108, 101, 32]⟩).size ≤ 600 * k + 5 := by rw [ByteArray.size_append]; omega
        clear qz
        generalize o ++ ⟨#[82, 117, 108, 101, 32]⟩ = ca0 at *
        have qz : (nm : ByteArray).size ≤ 20 := by omega
        have c1 := fun W => run_string_add_sum (P := Tryz.prog) W ca0 nm (by omega)
        replace sz : (ca0 ++ nm).size ≤ 600 * k + 25 := by rw [ByteArray.size_append]; omega
        clear qz
        generalize ca0 ++ nm = ca1 at *
        have qz : (⟨#[32]⟩ : ByteArray).size = 1 := rfl
        have c2 := fun W => run_string_add_sum (P := Tryz.prog) W ca1 ⟨#[32]⟩ (by omega)
        replace sz : (ca1 ++ ⟨#[32]⟩).size ≤ 600 * k + 26 := by rw [ByteArray.size_append]; omega
        clear qz
        generalize ca1 ++ ⟨#[32]⟩ = ca2 at *
        have qz : (t1 : ByteArray).size ≤ 20 := by omega
        have c3 := fun W => run_string_add_sum (P := Tryz.prog) W ca2 t1 (by omega)
        replace sz : (ca2 ++ t1).size ≤ 600 * k + 46 := by rw [ByteArray.size_append]; omega
        clear qz
        generalize ca2 ++ t1 = ca3 at *
        have qz : (⟨#[32]⟩ : ByteArray).size = 1 := rfl
        have c4 := fun W => run_string_add_sum (P := Tryz.prog) W ca3 ⟨#[32]⟩ (by omega)
        replace sz : (ca3 ++ ⟨#[32]⟩).size ≤ 600 * k + 47 := by rw [ByteArray.size_append]; omega
        clear qz
        generalize ca3 ++ ⟨#[32]⟩ = ca4 at *
        have qz : (t2 : ByteArray).size ≤ 20 := by omega
        have c5 := fun W => run_string_add_sum (P := Tryz.prog) W ca4 t2 (by omega)
        replace sz : (ca4 ++ t2).size ≤ 600 * k + 67 := by rw [ByteArray.size_append]; omega
        clear qz
        generalize ca4 ++ t2 = ca5 at *
        have qz : (⟨#[32, 45]⟩ : ByteArray).size = 2 := rfl
        have c6 := fun W => run_string_add_sum (P := Tryz.prog) W ca5 ⟨#[32, 45]⟩ (by omega)
        replace sz : (ca5 ++ ⟨#[32, 45]⟩).size ≤ 600 * k + 69 := by rw [ByteArray.size_append]; omega
        clear qz
        generalize ca5 ++ ⟨#[32, 45]⟩ = ca6 at *
        have qz : (t3 : ByteArray).size ≤ 70 := by omega
        have c7 := fun W => run_string_add_sum (P := Tryz.prog) W ca6 t3 (by omega)
        replace sz : (ca6 ++ t3).size ≤ 600 * k + 139 := by rw [ByteArray.size_append]; omega
        clear qz
        generalize ca6 ++ t3 = ca7 at *
        have qz : (⟨#[32]⟩ : ByteArray).size = 1 := rfl
        have c8 := fun W => run_string_add_sum (P := Tryz.prog) W ca7 ⟨#[32]⟩ (by omega)
        replace sz : (ca7 ++ ⟨#[32]⟩).size ≤ 600 * k + 140 := by rw [ByteArray.size_append]; omega
        clear qz
        generalize ca7 ++ ⟨#[32]⟩ = ca8 at *
        have qz : (t4 : ByteArray).size ≤ 26 := by omega
        have c9 := fun W => run_string_add_sum (P := Tryz.prog) W ca8 t4 (by omega)
        replace sz : (ca8 ++ t4).size ≤ 600 * k + 166 := by rw [ByteArray.size_append]; omega
        clear qz
        generalize ca8 ++ t4 = ca9 at *
        have qz : (⟨#[32]⟩ : ByteArray).size = 1 := rfl
        have c10 := fun W => run_string_add_sum (P := Tryz.prog) W ca9 ⟨#[32]⟩ (by omega)
        replace sz : (ca9 ++ ⟨#[32]⟩).size ≤ 600 * k + 167 := by rw [ByteArray.size_append]; omega
        clear qz
        generalize ca9 ++ ⟨#[32]⟩ = ca10 at *
        have qz : (t5 : ByteArray).size ≤ 20 := by omega
        have c11 := fun W => run_string_add_sum (P := Tryz.prog) W ca10 t5 (by omega)
        replace sz : (ca10 ++ t5).size ≤ 600 * k + 187 := by rw [ByteArray.size_append]; omega
        clear qz
        generalize ca10 ++ t5 = ca11 at *
        have qz : (⟨#[10]⟩ : ByteArray).size = 1 := rfl
        have c12 := fun W => run_string_add_sum (P := Tryz.prog) W ca11 ⟨#[10]⟩ (by omega)
        replace sz : (ca11 ++ ⟨#[10]⟩).size ≤ 600 * k + 188 := by rw [ByteArray.size_append]; omega
        clear qz
        generalize ca11 ++ ⟨#[10]⟩ = ca12 at *
        have cZ := Lib.hid sz
        clear sz
        go_wp2_with (go_at_call 56; refine (D2.out _).mono ?_; rintro e9 W9 ⟨rfl, hk⟩; replace HW := HW.below hk; clear hk y0 y1 y2 y3 y4 y5 y6 y7 y8 y9 y10; obtain ⟨y0, y1, y2, y3, y4, y5, y6, y7, y8, y9, y10⟩ := rule_cells HW)
        go_region_held3 (fun w' => w'.cell? ⟨wr.heap.size, 0, none⟩ = some (.string nm) ∧ w'.cell? ⟨wr.heap.size, 1, none⟩ = some (.int .i64 fr) ∧ w'.cell? ⟨wr.heap.size, 2, none⟩ = some (.int .i64 last) ∧ w'.cell? ⟨wr.heap.size, 3, none⟩ = some (.int .i64 mo) ∧ w'.cell? ⟨wr.heap.size, 4, none⟩ = some (.int .i64 ki) ∧ w'.cell? ⟨wr.heap.size, 5, none⟩ = some (.int .i64 wd) ∧ w'.cell? ⟨wr.heap.size, 6, none⟩ = some (.int .i64 da) ∧ w'.cell? ⟨wr.heap.size, 7, none⟩ = some (.int .i64 ti) ∧ w'.cell? ⟨wr.heap.size, 8, none⟩ = some (.int .i64 re) ∧ w'.cell? ⟨wr.heap.size, 9, none⟩ = some (.int .i64 save) ∧ w'.cell? ⟨wr.heap.size, 10, none⟩ = some (.string le)) (first | (with_reducible exact rule_cells HW) | (with_reducible exact rule_cells HW.drew) | (with_reducible exact rule_cells (HW.alloc _)) | (with_reducible exact rule_cells (HW.drew.alloc _)) | (with_reducible exact rule_cells (HW.alloc _).drew) | go_keep)
          (first
          | (go_at_call 56; (with_reducible refine (D1.out _).mono ?_); rintro e9 W9 ⟨rfl, hk⟩
             with_reducible (first | replace HW := StF.below HW hk | replace HW := StF.below HW.drew hk | replace HW := StF.below (HW.alloc _) hk | replace HW := StF.below (HW.drew.alloc _) hk | replace HW := StF.below (HW.alloc _).drew hk)
             clear hk)
          | (go_at_call 57; (with_reducible refine (D3.out _).mono ?_); rintro e9 W9 ⟨rfl, hk⟩
             with_reducible (first | replace HW := StF.below HW hk | replace HW := StF.below HW.drew hk | replace HW := StF.below (HW.alloc _) hk | replace HW := StF.below (HW.drew.alloc _) hk | replace HW := StF.below (HW.alloc _).drew hk)
             clear hk)
          | (go_at_call 58; (with_reducible refine (D4.out _).mono ?_); rintro e9 W9 ⟨rfl, hk⟩
             with_reducible (first | replace HW := StF.below HW hk | replace HW := StF.below HW.drew hk | replace HW := StF.below (HW.alloc _) hk | replace HW := StF.below (HW.drew.alloc _) hk | replace HW := StF.below (HW.alloc _).drew hk)
             clear hk)
          | (go_at_call 59; (with_reducible refine (D5.out _).mono ?_); rintro e9 W9 ⟨rfl, rfl⟩))
        all_goals
          go_wp2_with fail
          go_roundw
          case rel => exact ⟨k + 1, ca12, by omega, int_is (by omega), rfl, TX.out, by have := cZ.out; omega, HW.f⟩
          case measure => simp only [intOf]; omega
    · obtain rfl : k = n := by omega
      have E1 : (S.rules.map ruleTexts).take k = S.rules.map ruleTexts := List.take_of_length_le (by rw [List.length_map, LR.out]; exact Nat.le_refl _)
      have HO1 := Lib.hid (show o = textOf (S.rules.map ruleTexts ++ (S.zones.take 0).flatMap zoneLines) by rw [HO.out, E1]; simp)
      have zo1 : o.size ≤ 120000 + 30000 * 0 := by omega
      clear HO E1 zo h4
      go_wp2_with fail
      go_loopw [3, 7] (fun vo v wr => ∃ (j : Nat) (o : ByteArray), j ≤ m ∧ v = .int .i64 j ∧ vo = .string o ∧ o = textOf (S.rules.map ruleTexts ++ (S.zones.take j).flatMap zoneLines) ∧ o.size ≤ 120000 + 30000 * j ∧ StF w [.slice A k c, .slice B m d, .slice C q e] (fun _ => True) wr) (fun _ v _ => m - (intOf v).toNat)
      case atStart => exact ⟨0, o, by omega, rfl, rfl, HO1.out, zo1, HP⟩
      case round =>
        clear HP p0 p1 p2 HO1 zo1
        obtain ⟨j, o, hj, rfl, rfl, ho, zo, HP⟩ := hrel
        have HO := Lib.hid ho
        clear ho
        obtain ⟨_, p0, p1, p2, _⟩ := HP.b.three
        have mdm : m ≤ d := HV.out.zones.cap
        have mdx : d ≤ 9223372036854775807 := HV.out.zones.max
        by_cases h4 : j < m
        · obtain ⟨p, hpp⟩ : ∃ p, ze[j]? = some p := ⟨_, List.getElem?_eq_getElem (by rw [LZ.out]; exact h4)⟩
          have hz : S.zones[j]? = some p.1 := by rw [← HV.out.all, List.getElem?_map, hpp]; rfl
          have pm := List.mem_of_getElem? hpp
          have zm := List.mem_of_getElem? hz
          have ZK := Lib.hid (OK.out.2.2.2.2.1 p.1 zm)
          have FN := Lib.hid (flat_next hz)
          have ER := Lib.hid (HV.out.eras p pm)
          obtain ⟨g, o9, ea0, hg, _⟩ := (HV.out.zones.below HP.hb).cells (by show 0 < m; omega)
          replace ea0 : B = some ⟨g, o9, none⟩ := ea0
          subst ea0
          have ROW := Lib.hid (fun (X : World) (hX : Below w.heap.size w X) => (show X.cell? ⟨g, o9 + j * 2, none⟩ = some (.string p.1.name) ∧ X.cell? ⟨g, o9 + j * 2 + 1, none⟩ = some p.2.val from by
            obtain ⟨g', o', e', _, ca⟩ := (HV.out.zones.below hX).cells (by show 0 < m; omega)
            cases e'
            have ra := row_at ca (show (ze.map Ze.vals)[j]? = some (Ze.vals p) by rw [List.getElem?_map, hpp]; rfl)
            exact ⟨ra 0 _ rfl, ra 1 _ rfl⟩))
          obtain ⟨⟨nm, es⟩, ⟨ea, en, ec⟩⟩ := p
          replace ROW := Lib.hid (show ∀ (X : World), Below w.heap.size w X → X.cell? ⟨g, o9 + j * 2, none⟩ = some (.string nm) ∧ X.cell? ⟨g, o9 + j * 2 + 1, none⟩ = some (.slice ea en ec) from ROW.out)
          have LE := Lib.hid (show es.length = en by have := ER.out.len; simpa using this)
          have en0 : 0 < en := by
            have h1 := ZK.out.2.2.2
            have h2 := LE.out
            cases es with
            | nil => exact h1.elim
            | cons _ _ => rw [← h2]; simp
          have en40 : en ≤ 40 := by have h1 := ZK.out.2.1; have h2 := LE.out; simp only at h1; omega
          have zn := (place_bare ZK.out.1).2.1
          simp only at zn
          have TH := Lib.hid (show o ++ ⟨#[90, 111, 110, 101, 32]⟩ ++ nm ++ ⟨#[32]⟩ = o ++ zHead ⟨nm, es⟩ 0 by unfold zHead; rw [if_pos rfl]; simp only [ByteArray.append_assoc])
          have HO2 := Lib.hid (show textOf (S.rules.map ruleTexts ++ (S.zones.take j).flatMap zoneLines) = o from HO.out.symm)
          clear hpp hz pm zm HO
          obtain ⟨x0, x1⟩ := ROW.out _ HP.hb
          have sz := zo
          have qz : (⟨#[90, 111, 110, 101, 32]⟩ : ByteArray).size = 5 := rfl
          have zc0 := fun W => run_string_add_sum (P := Tryz.prog) W o ⟨#[90, 111, 110, 101, 32]⟩ (by omega)
          replace sz : (o ++ ⟨#[90, 111, 110, 101, 32]⟩).size ≤ 120000 + 30000 * j + 5 := by rw [ByteArray.size_append]; omega
          clear qz
          generalize o ++ ⟨#[90, 111, 110, 101, 32]⟩ = zca0 at *
          have qz : (nm : ByteArray).size ≤ 40 := by omega
          have zc1 := fun W => run_string_add_sum (P := Tryz.prog) W zca0 nm (by omega)
          replace sz : (zca0 ++ nm).size ≤ 120000 + 30000 * j + 45 := by rw [ByteArray.size_append]; omega
          clear qz
          generalize zca0 ++ nm = zca1 at *
          have qz : (⟨#[32]⟩ : ByteArray).size = 1 := rfl
          have zc2 := fun W => run_string_add_sum (P := Tryz.prog) W zca1 ⟨#[32]⟩ (by omega)
          replace sz : (zca1 ++ ⟨#[32]⟩).size ≤ 120000 + 30000 * j + 46 := by rw [ByteArray.size_append]; omega
          clear qz
          generalize zca1 ++ ⟨#[32]⟩ = zca2 at *
          have zcZ := Lib.hid sz
          clear sz
          go_wp2_with fail
          go_loopw [3, 8] (fun vo v wr => ∃ (k2 : Nat) (o2 : ByteArray), k2 ≤ en ∧ v = .int .i64 k2 ∧ vo = .string o2 ∧ o2 = o ++ zHead ⟨nm, es⟩ k2 ∧ o2.size ≤ 120100 + 30000 * j + 600 * k2 ∧ StF w [.slice A k c, .slice (some ⟨g, o9, none⟩) m d, .slice C q e] (fun _ => True) wr) (fun _ v _ => en - (intOf v).toNat)
          case atStart => exact ⟨0, zca2, by omega, rfl, rfl, TH.out, by have := zcZ.out; omega, HP⟩
          case round =>
            clear HP p0 p1 p2 x0 x1 TH zcZ zc0 zc1 zc2
            obtain ⟨k2, o2, hk2, rfl, rfl, ho, zo2, HP⟩ := hrel
            have HO := Lib.hid ho
            clear ho
            obtain ⟨_, p0, p1, p2, _⟩ := HP.b.three
            obtain ⟨x0, x1⟩ := ROW.out _ HP.hb
            by_cases h5 : k2 < en
            · obtain ⟨x, hxx⟩ : ∃ x, es[k2]? = some x := ⟨_, List.getElem?_eq_getElem (by rw [LE.out]; exact h5)⟩
              have RS : Rs 13 wr ea en ec (es.map Er.vals) := ER.out.below HP.hb
              obtain ⟨g2, o8, ea0, hg2, ca⟩ := RS.cells (by omega)
              subst ea0
              have ecm : en ≤ ec := RS.cap
              have ecx : ec ≤ 9223372036854775807 := RS.max
              have xm := List.mem_of_getElem? hxx
              have XK := ZK.out.2.2.1 x xm
              have TX := Lib.hid (show o2 ++ spc (eraTexts x) ++ nlT = o ++ zHead ⟨nm, es⟩ (k2 + 1) by rw [HO.out, ← zHead_next (z := ⟨nm, es⟩) hxx]; simp only [ByteArray.append_assoc])
              have zf := (format_bare XK.2.2.1).2.1
              have z1 := timeB_le x.off (by have := XK.1.1; omega) (by have := XK.1.2; omega)
              have z2 := save_le XK
              have z4 := timeB_le x.save (by have := XK.2.1.1; omega) (by have := XK.2.1.2; omega)
              have z5 : (dashB x.rules).size ≤ 20 := dash_le (by
                by_cases k : x.kind = 2
                · exact (set_bare (XK.2.2.2.2.2.2.1 k)).2.1
                · rw [XK.2.2.2.2.2.1 k]; decide)
              have D1 := Lib.hid (fun W => timeR x.off (by have := XK.1.1; omega) (by have := XK.1.2; omega) W)
              have D4 := Lib.hid (fun W => timeR x.save (by have := XK.2.1.1; omega) (by have := XK.2.1.2; omega) W)
              have D5 := Lib.hid (fun W => dashR x.rules W)
              have YK := Lib.hid (fun h : x.til = true => XK.2.2.2.2.2.2.2.1 h)
              have T0 := Lib.hid (fun (h : x.til = false) (oo : ByteArray) => era_sum0 x h oo)
              have T1 := Lib.hid (fun (h : x.til = true) (oo : ByteArray) => era_sum1 x h oo)
              have ra := row_at ca (show (es.map Er.vals)[k2]? = some (Er.vals x) by rw [List.getElem?_map, hxx]; rfl)
              have SV := Lib.hid (show saveT x = if x.kind = 1 then timeB x.save else dashB x.rules from rfl)
              obtain ⟨off, kind, save, rls, fm, til, year, ⟨mo, ki, wd, da, ti, re⟩⟩ := x
              simp only at zf z1 z2 z4 z5 D1 D4 D5 YK T0 T1 SV
              have y0 : wr.cell? ⟨g2, o8 + k2 * 13, none⟩ = some (.int .i64 off) := ra 0 _ rfl
              have y1 : wr.cell? ⟨g2, o8 + k2 * 13 + 1, none⟩ = some (.int .i64 kind) := ra 1 _ rfl
              have y2 : wr.cell? ⟨g2, o8 + k2 * 13 + 2, none⟩ = some (.int .i64 save) := ra 2 _ rfl
              have y3 : wr.cell? ⟨g2, o8 + k2 * 13 + 3, none⟩ = some (.string rls) := ra 3 _ rfl
              have y4 : wr.cell? ⟨g2, o8 + k2 * 13 + 4, none⟩ = some (.string fm) := ra 4 _ rfl
              have y5 : wr.cell? ⟨g2, o8 + k2 * 13 + 5, none⟩ = some (.bool til) := ra 5 _ rfl
              have y6 : wr.cell? ⟨g2, o8 + k2 * 13 + 6, none⟩ = some (.int .i64 year) := ra 6 _ rfl
              have y7 : wr.cell? ⟨g2, o8 + k2 * 13 + 7, none⟩ = some (.int .i64 mo) := ra 7 _ rfl
              have y8 : wr.cell? ⟨g2, o8 + k2 * 13 + 8, none⟩ = some (.int .i64 ki) := ra 8 _ rfl
              have y9 : wr.cell? ⟨g2, o8 + k2 * 13 + 9, none⟩ = some (.int .i64 wd) := ra 9 _ rfl
              have y10 : wr.cell? ⟨g2, o8 + k2 * 13 + 10, none⟩ = some (.int .i64 da) := ra 10 _ rfl
              have y11 : wr.cell? ⟨g2, o8 + k2 * 13 + 11, none⟩ = some (.int .i64 ti) := ra 11 _ rfl
              have y12 : wr.cell? ⟨g2, o8 + k2 * 13 + 12, none⟩ = some (.int .i64 re) := ra 12 _ rfl
              clear ca ra hxx xm XK RS
              generalize timeB off = t1 at *
              generalize spc (eraTexts ⟨off, kind, save, rls, fm, til, year, ⟨mo, ki, wd, da, ti, re⟩⟩) = sp at *
              generalize hsv : saveT ⟨off, kind, save, rls, fm, til, year, ⟨mo, ki, wd, da, ti, re⟩⟩ = t2 at *
              clear hsv
              cases til with
              | false =>
                have TT := Lib.hid ((T0.out rfl o2).trans TX.out)
                clear TX T0 T1 YK
                go_upto_region 20 with (fail)
                have HW : StF wr [.int .i64 off, .int .i64 kind, .int .i64 save, .string rls, .string fm, .bool false, .int .i64 year, .int .i64 mo, .int .i64 ki, .int .i64 wd, .int .i64 da, .int .i64 ti, .int .i64 re] (StF w [.slice A k c, .slice (some ⟨g, o9, none⟩) m d, .slice C q e] (fun _ => True)) (wr.alloc (.cells #[.int .i64 off, .int .i64 kind, .int .i64 save, .string rls, .string fm, .bool false, .int .i64 year, .int .i64 mo, .int .i64 ki, .int .i64 wd, .int .i64 da, .int .i64 ti, .int .i64 re] 52)) := ⟨mono_st _ _, blk_lit wr 52 [.int .i64 off, .int .i64 kind, .int .i64 save, .string rls, .string fm, .bool false, .int .i64 year, .int .i64 mo, .int .i64 ki, .int .i64 wd, .int .i64 da, .int .i64 ti, .int .i64 re], below_box wr _, HP.alloc _⟩
                generalize wr.alloc (.cells #[.int .i64 off, .int .i64 kind, .int .i64 save, .string rls, .string fm, .bool false, .int .i64 year, .int .i64 mo, .int .i64 ki, .int .i64 wd, .int .i64 da, .int .i64 ti, .int .i64 re] 52) = W at *
                clear y0 y1 y2 y3 y4 y5 y6 y7 y8 y9 y10 y11 y12 hg2 HP p0 p1 p2 x0 x1
                obtain ⟨y0, y1, y2, y3, y4, y5, y6, y7, y8, y9, y10, y11, y12⟩ := era_cells HW
                by_cases kk : kind = 1
                · skip
                  have kb : (kind == 1) = true := beq_iff_eq.2 kk
                  rw [if_pos kk] at SV
                  rw [← SV.out] at D4 z4
                  clear kk SV
                  generalize dashB rls = t9 at *
                  have sz := zo2
                  have qz : (t1 : ByteArray).size ≤ 26 := by omega
                  have c0 := fun W => run_string_add_sum (P := Tryz.prog) W o2 t1 (by omega)
                  replace sz : (o2 ++ t1).size ≤ 120100 + 30000 * j + 600 * k2 + 26 := by rw [ByteArray.size_append]; omega
                  clear qz
                  generalize o2 ++ t1 = ca0 at *
                  have qz : (⟨#[32]⟩ : ByteArray).size = 1 := rfl
                  have c1 := fun W => run_string_add_sum (P := Tryz.prog) W ca0 ⟨#[32]⟩ (by omega)
                  replace sz : (ca0 ++ ⟨#[32]⟩).size ≤ 120100 + 30000 * j + 600 * k2 + 27 := by rw [ByteArray.size_append]; omega
                  clear qz
                  generalize ca0 ++ ⟨#[32]⟩ = ca1 at *
                  have qz : (t2 : ByteArray).size ≤ 40 := by omega
                  have c2 := fun W => run_string_add_sum (P := Tryz.prog) W ca1 t2 (by omega)
                  replace sz : (ca1 ++ t2).size ≤ 120100 + 30000 * j + 600 * k2 + 67 := by rw [ByteArray.size_append]; omega
                  clear qz
                  generalize ca1 ++ t2 = ca2 at *
                  have qz : (⟨#[32]⟩ : ByteArray).size = 1 := rfl
                  have c3 := fun W => run_string_add_sum (P := Tryz.prog) W ca2 ⟨#[32]⟩ (by omega)
                  replace sz : (ca2 ++ ⟨#[32]⟩).size ≤ 120100 + 30000 * j + 600 * k2 + 68 := by rw [ByteArray.size_append]; omega
                  clear qz
                  generalize ca2 ++ ⟨#[32]⟩ = ca3 at *
                  have qz : (fm : ByteArray).size ≤ 20 := by omega
                  have c4 := fun W => run_string_add_sum (P := Tryz.prog) W ca3 fm (by omega)
                  replace sz : (ca3 ++ fm).size ≤ 120100 + 30000 * j + 600 * k2 + 88 := by rw [ByteArray.size_append]; omega
                  clear qz
                  generalize ca3 ++ fm = ca4 at *
                  have qz : (⟨#[10]⟩ : ByteArray).size = 1 := rfl
                  have c5 := fun W => run_string_add_sum (P := Tryz.prog) W ca4 ⟨#[10]⟩ (by omega)
                  replace sz : (ca4 ++ ⟨#[10]⟩).size ≤ 120100 + 30000 * j + 600 * k2 + 89 := by rw [ByteArray.size_append]; omega
                  clear qz
                  generalize ca4 ++ ⟨#[10]⟩ = ca5 at *
                  have cZ := Lib.hid sz
                  clear sz
                  go_wp2_with first
                    | (go_at_call 59; refine (D5.out _).mono ?_; clear D5; rintro e9 W9 ⟨rfl, rfl⟩)
                    | (go_at_call 58; refine (D4.out _).mono ?_; clear D4; rintro e9 W9 ⟨rfl, hk⟩; replace HW := HW.below hk; clear hk y0 y1 y2 y3 y4 y5 y6 y7 y8 y9 y10 y11 y12; obtain ⟨y0, y1, y2, y3, y4, y5, y6, y7, y8, y9, y10, y11, y12⟩ := era_cells HW)
                  go_region_held3 (fun w' => w'.cell? ⟨wr.heap.size, 0, none⟩ = some (.int .i64 off) ∧ w'.cell? ⟨wr.heap.size, 1, none⟩ = some (.int .i64 kind) ∧ w'.cell? ⟨wr.heap.size, 2, none⟩ = some (.int .i64 save) ∧ w'.cell? ⟨wr.heap.size, 3, none⟩ = some (.string rls) ∧ w'.cell? ⟨wr.heap.size, 4, none⟩ = some (.string fm) ∧ w'.cell? ⟨wr.heap.size, 5, none⟩ = some (.bool false) ∧ w'.cell? ⟨wr.heap.size, 6, none⟩ = some (.int .i64 year) ∧ w'.cell? ⟨wr.heap.size, 7, none⟩ = some (.int .i64 mo) ∧ w'.cell? ⟨wr.heap.size, 8, none⟩ = some (.int .i64 ki) ∧ w'.cell? ⟨wr.heap.size, 9, none⟩ = some (.int .i64 wd) ∧ w'.cell? ⟨wr.heap.size, 10, none⟩ = some (.int .i64 da) ∧ w'.cell? ⟨wr.heap.size, 11, none⟩ = some (.int .i64 ti) ∧ w'.cell? ⟨wr.heap.size, 12, none⟩ = some (.int .i64 re)) (first | (with_reducible exact era_cells HW) | (with_reducible exact era_cells HW.drew) | (with_reducible exact era_cells (HW.alloc _)) | (with_reducible exact era_cells (HW.drew.alloc _)) | (with_reducible exact era_cells (HW.alloc _).drew) | go_keep)
                    (first
                    | (go_at_call 58; (with_reducible refine (D1.out _).mono ?_); rintro e9 W9 ⟨rfl, hk⟩
                       with_reducible (first | replace HW := StF.below HW hk | replace HW := StF.below HW.drew hk | replace HW := StF.below (HW.alloc _) hk | replace HW := StF.below (HW.drew.alloc _) hk | replace HW := StF.below (HW.alloc _).drew hk)
                       clear hk))
                  all_goals
                    clear y0 y1 y2 y3 y4 y5 y6 y7 y8 y9 y10 y11 y12
                    obtain ⟨y0, y1, y2, y3, y4, y5, y6, y7, y8, y9, y10, y11, y12⟩ := era_cells HW
                    go_wp2_with fail
                    go_roundw
                    case rel => exact ⟨k2 + 1, ca5, by omega, int_is (by omega), rfl, TT.out, by have := cZ.out; omega, HW.f⟩
                    case measure => simp only [intOf]; omega
                · skip
                  have kb : (kind == 1) = false := beq_eq_false_iff_ne.2 kk
                  rw [if_neg kk] at SV
                  rw [← SV.out] at D5 z5
                  clear kk SV
                  generalize timeB save = t9 at *
                  have sz := zo2
                  have qz : (t1 : ByteArray).size ≤ 26 := by omega
                  have c0 := fun W => run_string_add_sum (P := Tryz.prog) W o2 t1 (by omega)
                  replace sz : (o2 ++ t1).size ≤ 120100 + 30000 * j + 600 * k2 + 26 := by rw [ByteArray.size_append]; omega
                  clear qz
                  generalize o2 ++ t1 = ca0 at *
                  have qz : (⟨#[32]⟩ : ByteArray).size = 1 := rfl
                  have c1 := fun W => run_string_add_sum (P := Tryz.prog) W ca0 ⟨#[32]⟩ (by omega)
                  replace sz : (ca0 ++ ⟨#[32]⟩).size ≤ 120100 + 30000 * j + 600 * k2 + 27 := by rw [ByteArray.size_append]; omega
                  clear qz
                  generalize ca0 ++ ⟨#[32]⟩ = ca1 at *
                  have qz : (t2 : ByteArray).size ≤ 40 := by omega
                  have c2 := fun W => run_string_add_sum (P := Tryz.prog) W ca1 t2 (by omega)
                  replace sz : (ca1 ++ t2).size ≤ 120100 + 30000 * j + 600 * k2 + 67 := by rw [ByteArray.size_append]; omega
                  clear qz
                  generalize ca1 ++ t2 = ca2 at *
                  have qz : (⟨#[32]⟩ : ByteArray).size = 1 := rfl
                  have c3 := fun W => run_string_add_sum (P := Tryz.prog) W ca2 ⟨#[32]⟩ (by omega)
                  replace sz : (ca2 ++ ⟨#[32]⟩).size ≤ 120100 + 30000 * j + 600 * k2 + 68 := by rw [ByteArray.size_append]; omega
                  clear qz
                  generalize ca2 ++ ⟨#[32]⟩ = ca3 at *
                  have qz : (fm : ByteArray).size ≤ 20 := by omega
                  have c4 := fun W => run_string_add_sum (P := Tryz.prog) W ca3 fm (by omega)
                  replace sz : (ca3 ++ fm).size ≤ 120100 + 30000 * j + 600 * k2 + 88 := by rw [ByteArray.size_append]; omega
                  clear qz
                  generalize ca3 ++ fm = ca4 at *
                  have qz : (⟨#[10]⟩ : ByteArray).size = 1 := rfl
                  have c5 := fun W => run_string_add_sum (P := Tryz.prog) W ca4 ⟨#[10]⟩ (by omega)
                  replace sz : (ca4 ++ ⟨#[10]⟩).size ≤ 120100 + 30000 * j + 600 * k2 + 89 := by rw [ByteArray.size_append]; omega
                  clear qz
                  generalize ca4 ++ ⟨#[10]⟩ = ca5 at *
                  have cZ := Lib.hid sz
                  clear sz
                  go_wp2_with first
                    | (go_at_call 59; refine (D5.out _).mono ?_; clear D5; rintro e9 W9 ⟨rfl, rfl⟩)
                  go_region_held3 (fun w' => w'.cell? ⟨wr.heap.size, 0, none⟩ = some (.int .i64 off) ∧ w'.cell? ⟨wr.heap.size, 1, none⟩ = some (.int .i64 kind) ∧ w'.cell? ⟨wr.heap.size, 2, none⟩ = some (.int .i64 save) ∧ w'.cell? ⟨wr.heap.size, 3, none⟩ = some (.string rls) ∧ w'.cell? ⟨wr.heap.size, 4, none⟩ = some (.string fm) ∧ w'.cell? ⟨wr.heap.size, 5, none⟩ = some (.bool false) ∧ w'.cell? ⟨wr.heap.size, 6, none⟩ = some (.int .i64 year) ∧ w'.cell? ⟨wr.heap.size, 7, none⟩ = some (.int .i64 mo) ∧ w'.cell? ⟨wr.heap.size, 8, none⟩ = some (.int .i64 ki) ∧ w'.cell? ⟨wr.heap.size, 9, none⟩ = some (.int .i64 wd) ∧ w'.cell? ⟨wr.heap.size, 10, none⟩ = some (.int .i64 da) ∧ w'.cell? ⟨wr.heap.size, 11, none⟩ = some (.int .i64 ti) ∧ w'.cell? ⟨wr.heap.size, 12, none⟩ = some (.int .i64 re)) (first | (with_reducible exact era_cells HW) | (with_reducible exact era_cells HW.drew) | (with_reducible exact era_cells (HW.alloc _)) | (with_reducible exact era_cells (HW.drew.alloc _)) | (with_reducible exact era_cells (HW.alloc _).drew) | go_keep)
                    (first
                    | (go_at_call 58; (with_reducible refine (D1.out _).mono ?_); rintro e9 W9 ⟨rfl, hk⟩
                       with_reducible (first | replace HW := StF.below HW hk | replace HW := StF.below HW.drew hk | replace HW := StF.below (HW.alloc _) hk | replace HW := StF.below (HW.drew.alloc _) hk | replace HW := StF.below (HW.alloc _).drew hk)
                       clear hk))
                  all_goals
                    clear y0 y1 y2 y3 y4 y5 y6 y7 y8 y9 y10 y11 y12
                    obtain ⟨y0, y1, y2, y3, y4, y5, y6, y7, y8, y9, y10, y11, y12⟩ := era_cells HW
                    go_wp2_with fail
                    go_roundw
                    case rel => exact ⟨k2 + 1, ca5, by omega, int_is (by omega), rfl, TT.out, by have := cZ.out; omega, HW.f⟩
                    case measure => simp only [intOf]; omega
              | true =>
                have TT := Lib.hid ((T1.out rfl o2).trans TX.out)
                obtain ⟨yk, sk⟩ := YK.out rfl
                have z6 := yearT_le (n := year) yk.1 (by omega)
                have z7 := threeT_le sk
                have D6 := Lib.hid (digY year yk.1 (by omega))
                have D7 := Lib.hid (show ∀ W, Calls Tryz.prog 57 #[.agg #[.int .i64 mo, .int .i64 ki, .int .i64 wd, .int .i64 da, .int .i64 ti, .int .i64 re]] W (RetV W (.string (threeT ⟨mo, ki, wd, da, ti, re⟩))) from fun W => threeR sk W)
                clear TX T0 T1 YK yk sk
                generalize yearT year = t6 at *
                generalize threeT ⟨mo, ki, wd, da, ti, re⟩ = t7 at *
                go_upto_region 20 with (fail)
                have HW : StF wr [.int .i64 off, .int .i64 kind, .int .i64 save, .string rls, .string fm, .bool true, .int .i64 year, .int .i64 mo, .int .i64 ki, .int .i64 wd, .int .i64 da, .int .i64 ti, .int .i64 re] (StF w [.slice A k c, .slice (some ⟨g, o9, none⟩) m d, .slice C q e] (fun _ => True)) (wr.alloc (.cells #[.int .i64 off, .int .i64 kind, .int .i64 save, .string rls, .string fm, .bool true, .int .i64 year, .int .i64 mo, .int .i64 ki, .int .i64 wd, .int .i64 da, .int .i64 ti, .int .i64 re] 52)) := ⟨mono_st _ _, blk_lit wr 52 [.int .i64 off, .int .i64 kind, .int .i64 save, .string rls, .string fm, .bool true, .int .i64 year, .int .i64 mo, .int .i64 ki, .int .i64 wd, .int .i64 da, .int .i64 ti, .int .i64 re], below_box wr _, HP.alloc _⟩
                generalize wr.alloc (.cells #[.int .i64 off, .int .i64 kind, .int .i64 save, .string rls, .string fm, .bool true, .int .i64 year, .int .i64 mo, .int .i64 ki, .int .i64 wd, .int .i64 da, .int .i64 ti, .int .i64 re] 52) = W at *
                clear y0 y1 y2 y3 y4 y5 y6 y7 y8 y9 y10 y11 y12 hg2 HP p0 p1 p2 x0 x1
                obtain ⟨y0, y1, y2, y3, y4, y5, y6, y7, y8, y9, y10, y11, y12⟩ := era_cells HW
                by_cases kk : kind = 1
                · skip
                  have kb : (kind == 1) = true := beq_iff_eq.2 kk
                  rw [if_pos kk] at SV
                  rw [← SV.out] at D4 z4
                  clear kk SV
                  generalize dashB rls = t9 at *
                  have sz := zo2
                  have qz : (t1 : ByteArray).size ≤ 26 := by omega
                  have c0 := fun W => run_string_add_sum (P := Tryz.prog) W o2 t1 (by omega)
                  replace sz : (o2 ++ t1).size ≤ 120100 + 30000 * j + 600 * k2 + 26 := by rw [ByteArray.size_append]; omega
                  clear qz
                  generalize o2 ++ t1 = ca0 at *
                  have qz : (⟨#[32]⟩ : ByteArray).size = 1 := rfl
                  have c1 := fun W => run_string_add_sum (P := Tryz.prog) W ca0 ⟨#[32]⟩ (by omega)
                  replace sz : (ca0 ++ ⟨#[32]⟩).size ≤ 120100 + 30000 * j + 600 * k2 + 27 := by rw [ByteArray.size_append]; omega
                  clear qz
                  generalize ca0 ++ ⟨#[32]⟩ = ca1 at *
                  have qz : (t2 : ByteArray).size ≤ 40 := by omega
                  have c2 := fun W => run_string_add_sum (P := Tryz.prog) W ca1 t2 (by omega)
                  replace sz : (ca1 ++ t2).size ≤ 120100 + 30000 * j + 600 * k2 + 67 := by rw [ByteArray.size_append]; omega
                  clear qz
                  generalize ca1 ++ t2 = ca2 at *
                  have qz : (⟨#[32]⟩ : ByteArray).size = 1 := rfl
                  have c3 := fun W => run_string_add_sum (P := Tryz.prog) W ca2 ⟨#[32]⟩ (by omega)
                  replace sz : (ca2 ++ ⟨#[32]⟩).size ≤ 120100 + 30000 * j + 600 * k2 + 68 := by rw [ByteArray.size_append]; omega
                  clear qz
                  generalize ca2 ++ ⟨#[32]⟩ = ca3 at *
                  have qz : (fm : ByteArray).size ≤ 20 := by omega
                  have c4 := fun W => run_string_add_sum (P := Tryz.prog) W ca3 fm (by omega)
                  replace sz : (ca3 ++ fm).size ≤ 120100 + 30000 * j + 600 * k2 + 88 := by rw [ByteArray.size_append]; omega
                  clear qz
                  generalize ca3 ++ fm = ca4 at *
                  have qz : (⟨#[32]⟩ : ByteArray).size = 1 := rfl
                  have c5 := fun W => run_string_add_sum (P := Tryz.prog) W ca4 ⟨#[32]⟩ (by omega)
                  replace sz : (ca4 ++ ⟨#[32]⟩).size ≤ 120100 + 30000 * j + 600 * k2 + 89 := by rw [ByteArray.size_append]; omega
                  clear qz
                  generalize ca4 ++ ⟨#[32]⟩ = ca5 at *
                  have qz : (t6 : ByteArray).size ≤ 20 := by omega
                  have c6 := fun W => run_string_add_sum (P := Tryz.prog) W ca5 t6 (by omega)
                  replace sz : (ca5 ++ t6).size ≤ 120100 + 30000 * j + 600 * k2 + 109 := by rw [ByteArray.size_append]; omega
                  clear qz
                  generalize ca5 ++ t6 = ca6 at *
                  have qz : (t7 : ByteArray).size ≤ 70 := by omega
                  have c7 := fun W => run_string_add_sum (P := Tryz.prog) W ca6 t7 (by omega)
                  replace sz : (ca6 ++ t7).size ≤ 120100 + 30000 * j + 600 * k2 + 179 := by rw [ByteArray.size_append]; omega
                  clear qz
                  generalize ca6 ++ t7 = ca7 at *
                  have qz : (⟨#[10]⟩ : ByteArray).size = 1 := rfl
                  have c8 := fun W => run_string_add_sum (P := Tryz.prog) W ca7 ⟨#[10]⟩ (by omega)
                  replace sz : (ca7 ++ ⟨#[10]⟩).size ≤ 120100 + 30000 * j + 600 * k2 + 180 := by rw [ByteArray.size_append]; omega
                  clear qz
                  generalize ca7 ++ ⟨#[10]⟩ = ca8 at *
                  have cZ := Lib.hid sz
                  clear sz
                  go_wp2_with first
                    | (go_at_call 59; refine (D5.out _).mono ?_; clear D5; rintro e9 W9 ⟨rfl, rfl⟩)
                    | (go_at_call 58; refine (D4.out _).mono ?_; clear D4; rintro e9 W9 ⟨rfl, hk⟩; replace HW := HW.below hk; clear hk y0 y1 y2 y3 y4 y5 y6 y7 y8 y9 y10 y11 y12; obtain ⟨y0, y1, y2, y3, y4, y5, y6, y7, y8, y9, y10, y11, y12⟩ := era_cells HW)
                  go_region_held3 (fun w' => w'.cell? ⟨wr.heap.size, 0, none⟩ = some (.int .i64 off) ∧ w'.cell? ⟨wr.heap.size, 1, none⟩ = some (.int .i64 kind) ∧ w'.cell? ⟨wr.heap.size, 2, none⟩ = some (.int .i64 save) ∧ w'.cell? ⟨wr.heap.size, 3, none⟩ = some (.string rls) ∧ w'.cell? ⟨wr.heap.size, 4, none⟩ = some (.string fm) ∧ w'.cell? ⟨wr.heap.size, 5, none⟩ = some (.bool true) ∧ w'.cell? ⟨wr.heap.size, 6, none⟩ = some (.int .i64 year) ∧ w'.cell? ⟨wr.heap.size, 7, none⟩ = some (.int .i64 mo) ∧ w'.cell? ⟨wr.heap.size, 8, none⟩ = some (.int .i64 ki) ∧ w'.cell? ⟨wr.heap.size, 9, none⟩ = some (.int .i64 wd) ∧ w'.cell? ⟨wr.heap.size, 10, none⟩ = some (.int .i64 da) ∧ w'.cell? ⟨wr.heap.size, 11, none⟩ = some (.int .i64 ti) ∧ w'.cell? ⟨wr.heap.size, 12, none⟩ = some (.int .i64 re)) (first | (with_reducible exact era_cells HW) | (with_reducible exact era_cells HW.drew) | (with_reducible exact era_cells (HW.alloc _)) | (with_reducible exact era_cells (HW.drew.alloc _)) | (with_reducible exact era_cells (HW.alloc _).drew) | go_keep)
                    (first
                    | (go_at_call 58; (with_reducible refine (D1.out _).mono ?_); rintro e9 W9 ⟨rfl, hk⟩
                       with_reducible (first | replace HW := StF.below HW hk | replace HW := StF.below HW.drew hk | replace HW := StF.below (HW.alloc _) hk | replace HW := StF.below (HW.drew.alloc _) hk | replace HW := StF.below (HW.alloc _).drew hk)
                       clear hk))
                  all_goals
                    clear y0 y1 y2 y3 y4 y5 y6 y7 y8 y9 y10 y11 y12
                    obtain ⟨y0, y1, y2, y3, y4, y5, y6, y7, y8, y9, y10, y11, y12⟩ := era_cells HW
                    go_wp2_with fail
                    go_region_held3 (fun w' => w'.cell? ⟨wr.heap.size, 0, none⟩ = some (.int .i64 off) ∧ w'.cell? ⟨wr.heap.size, 1, none⟩ = some (.int .i64 kind) ∧ w'.cell? ⟨wr.heap.size, 2, none⟩ = some (.int .i64 save) ∧ w'.cell? ⟨wr.heap.size, 3, none⟩ = some (.string rls) ∧ w'.cell? ⟨wr.heap.size, 4, none⟩ = some (.string fm) ∧ w'.cell? ⟨wr.heap.size, 5, none⟩ = some (.bool true) ∧ w'.cell? ⟨wr.heap.size, 6, none⟩ = some (.int .i64 year) ∧ w'.cell? ⟨wr.heap.size, 7, none⟩ = some (.int .i64 mo) ∧ w'.cell? ⟨wr.heap.size, 8, none⟩ = some (.int .i64 ki) ∧ w'.cell? ⟨wr.heap.size, 9, none⟩ = some (.int .i64 wd) ∧ w'.cell? ⟨wr.heap.size, 10, none⟩ = some (.int .i64 da) ∧ w'.cell? ⟨wr.heap.size, 11, none⟩ = some (.int .i64 ti) ∧ w'.cell? ⟨wr.heap.size, 12, none⟩ = some (.int .i64 re)) (first | (with_reducible exact era_cells HW) | (with_reducible exact era_cells HW.drew) | (with_reducible exact era_cells (HW.alloc _)) | (with_reducible exact era_cells (HW.drew.alloc _)) | (with_reducible exact era_cells (HW.alloc _).drew) | go_keep)
                      (first
                      | (go_at_call 56; (with_reducible refine (D6.out _).mono ?_); rintro e9 W9 ⟨rfl, hk⟩
                         with_reducible (first | replace HW := StF.below HW hk | replace HW := StF.below HW.drew hk | replace HW := StF.below (HW.alloc _) hk | replace HW := StF.below (HW.drew.alloc _) hk | replace HW := StF.below (HW.alloc _).drew hk)
                         clear hk)
                      | (go_at_call 57; (with_reducible refine (D7.out _).mono ?_); rintro e9 W9 ⟨rfl, hk⟩
                         with_reducible (first | replace HW := StF.below HW hk | replace HW := StF.below HW.drew hk | replace HW := StF.below (HW.alloc _) hk | replace HW := StF.below (HW.drew.alloc _) hk | replace HW := StF.below (HW.alloc _).drew hk)
                         clear hk))
                    all_goals
                      go_wp2_with fail
                      go_roundw
                      case rel => exact ⟨k2 + 1, ca8, by omega, int_is (by omega), rfl, TT.out, by have := cZ.out; omega, HW.f⟩
                      case measure => simp only [intOf]; omega
                · skip
                  have kb : (kind == 1) = false := beq_eq_false_iff_ne.2 kk
                  rw [if_neg kk] at SV
                  rw [← SV.out] at D5 z5
                  clear kk SV
                  generalize timeB save = t9 at *
                  have sz := zo2
                  have qz : (t1 : ByteArray).size ≤ 26 := by omega
                  have c0 := fun W => run_string_add_sum (P := Tryz.prog) W o2 t1 (by omega)
                  replace sz : (o2 ++ t1).size ≤ 120100 + 30000 * j + 600 * k2 + 26 := by rw [ByteArray.size_append]; omega
                  clear qz
                  generalize o2 ++ t1 = ca0 at *
                  have qz : (⟨#[32]⟩ : ByteArray).size = 1 := rfl
                  have c1 := fun W => run_string_add_sum (P := Tryz.prog) W ca0 ⟨#[32]⟩ (by omega)
                  replace sz : (ca0 ++ ⟨#[32]⟩).size ≤ 120100 + 30000 * j + 600 * k2 + 27 := by rw [ByteArray.size_append]; omega
                  clear qz
                  generalize ca0 ++ ⟨#[32]⟩ = ca1 at *
                  have qz : (t2 : ByteArray).size ≤ 40 := by omega
                  have c2 := fun W => run_string_add_sum (P := Tryz.prog) W ca1 t2 (by omega)
                  replace sz : (ca1 ++ t2).size ≤ 120100 + 30000 * j + 600 * k2 + 67 := by rw [ByteArray.size_append]; omega
                  clear qz
                  generalize ca1 ++ t2 = ca2 at *
                  have qz : (⟨#[32]⟩ : ByteArray).size = 1 := rfl
                  have c3 := fun W => run_string_add_sum (P := Tryz.prog) W ca2 ⟨#[32]⟩ (by omega)
                  replace sz : (ca2 ++ ⟨#[32]⟩).size ≤ 120100 + 30000 * j + 600 * k2 + 68 := by rw [ByteArray.size_append]; omega
                  clear qz
                  generalize ca2 ++ ⟨#[32]⟩ = ca3 at *
                  have qz : (fm : ByteArray).size ≤ 20 := by omega
                  have c4 := fun W => run_string_add_sum (P := Tryz.prog) W ca3 fm (by omega)
                  replace sz : (ca3 ++ fm).size ≤ 120100 + 30000 * j + 600 * k2 + 88 := by rw [ByteArray.size_append]; omega
                  clear qz
                  generalize ca3 ++ fm = ca4 at *
                  have qz : (⟨#[32]⟩ : ByteArray).size = 1 := rfl
                  have c5 := fun W => run_string_add_sum (P := Tryz.prog) W ca4 ⟨#[32]⟩ (by omega)
                  replace sz : (ca4 ++ ⟨#[32]⟩).size ≤ 120100 + 30000 * j + 600 * k2 + 89 := by rw [ByteArray.size_append]; omega
                  clear qz
                  generalize ca4 ++ ⟨#[32]⟩ = ca5 at *
                  have qz : (t6 : ByteArray).size ≤ 20 := by omega
                  have c6 := fun W => run_string_add_sum (P := Tryz.prog) W ca5 t6 (by omega)
                  replace sz : (ca5 ++ t6).size ≤ 120100 + 30000 * j + 600 * k2 + 109 := by rw [ByteArray.size_append]; omega
                  clear qz
                  generalize ca5 ++ t6 = ca6 at *
                  have qz : (t7 : ByteArray).size ≤ 70 := by omega
                  have c7 := fun W => run_string_add_sum (P := Tryz.prog) W ca6 t7 (by omega)
                  replace sz : (ca6 ++ t7).size ≤ 120100 + 30000 * j + 600 * k2 + 179 := by rw [ByteArray.size_append]; omega
                  clear qz
                  generalize ca6 ++ t7 = ca7 at *
                  have qz : (⟨#[10]⟩ : ByteArray).size = 1 := rfl
                  have c8 := fun W => run_string_add_sum (P := Tryz.prog) W ca7 ⟨#[10]⟩ (by omega)
                  replace sz : (ca7 ++ ⟨#[10]⟩).size ≤ 120100 + 30000 * j + 600 * k2 + 180 := by rw [ByteArray.size_append]; omega
                  clear qz
                  generalize ca7 ++ ⟨#[10]⟩ = ca8 at *
                  have cZ := Lib.hid sz
                  clear sz
                  go_wp2_with first
                    | (go_at_call 59; refine (D5.out _).mono ?_; clear D5; rintro e9 W9 ⟨rfl, rfl⟩)
                  go_region_held3 (fun w' => w'.cell? ⟨wr.heap.size, 0, none⟩ = some (.int .i64 off) ∧ w'.cell? ⟨wr.heap.size, 1, none⟩ = some (.int .i64 kind) ∧ w'.cell? ⟨wr.heap.size, 2, none⟩ = some (.int .i64 save) ∧ w'.cell? ⟨wr.heap.size, 3, none⟩ = some (.string rls) ∧ w'.cell? ⟨wr.heap.size, 4, none⟩ = some (.string fm) ∧ w'.cell? ⟨wr.heap.size, 5, none⟩ = some (.bool true) ∧ w'.cell? ⟨wr.heap.size, 6, none⟩ = some (.int .i64 year) ∧ w'.cell? ⟨wr.heap.size, 7, none⟩ = some (.int .i64 mo) ∧ w'.cell? ⟨wr.heap.size, 8, none⟩ = some (.int .i64 ki) ∧ w'.cell? ⟨wr.heap.size, 9, none⟩ = some (.int .i64 wd) ∧ w'.cell? ⟨wr.heap.size, 10, none⟩ = some (.int .i64 da) ∧ w'.cell? ⟨wr.heap.size, 11, none⟩ = some (.int .i64 ti) ∧ w'.cell? ⟨wr.heap.size, 12, none⟩ = some (.int .i64 re)) (first | (with_reducible exact era_cells HW) | (with_reducible exact era_cells HW.drew) | (with_reducible exact era_cells (HW.alloc _)) | (with_reducible exact era_cells (HW.drew.alloc _)) | (with_reducible exact era_cells (HW.alloc _).drew) | go_keep)
                    (first
                    | (go_at_call 58; (with_reducible refine (D1.out _).mono ?_); rintro e9 W9 ⟨rfl, hk⟩
                       with_reducible (first | replace HW := StF.below HW hk | replace HW := StF.below HW.drew hk | replace HW := StF.below (HW.alloc _) hk | replace HW := StF.below (HW.drew.alloc _) hk | replace HW := StF.below (HW.alloc _).drew hk)
                       clear hk))
                  all_goals
                    clear y0 y1 y2 y3 y4 y5 y6 y7 y8 y9 y10 y11 y12
                    obtain ⟨y0, y1, y2, y3, y4, y5, y6, y7, y8, y9, y10, y11, y12⟩ := era_cells HW
                    go_wp2_with fail
                    go_region_held3 (fun w' => w'.cell? ⟨wr.heap.size, 0, none⟩ = some (.int .i64 off) ∧ w'.cell? ⟨wr.heap.size, 1, none⟩ = some (.int .i64 kind) ∧ w'.cell? ⟨wr.heap.size, 2, none⟩ = some (.int .i64 save) ∧ w'.cell? ⟨wr.heap.size, 3, none⟩ = some (.string rls) ∧ w'.cell? ⟨wr.heap.size, 4, none⟩ = some (.string fm) ∧ w'.cell? ⟨wr.heap.size, 5, none⟩ = some (.bool true) ∧ w'.cell? ⟨wr.heap.size, 6, none⟩ = some (.int .i64 year) ∧ w'.cell? ⟨wr.heap.size, 7, none⟩ = some (.int .i64 mo) ∧ w'.cell? ⟨wr.heap.size, 8, none⟩ = some (.int .i64 ki) ∧ w'.cell? ⟨wr.heap.size, 9, none⟩ = some (.int .i64 wd) ∧ w'.cell? ⟨wr.heap.size, 10, none⟩ = some (.int .i64 da) ∧ w'.cell? ⟨wr.heap.size, 11, none⟩ = some (.int .i64 ti) ∧ w'.cell? ⟨wr.heap.size, 12, none⟩ = some (.int .i64 re)) (first | (with_reducible exact era_cells HW) | (with_reducible exact era_cells HW.drew) | (with_reducible exact era_cells (HW.alloc _)) | (with_reducible exact era_cells (HW.drew.alloc _)) | (with_reducible exact era_cells (HW.alloc _).drew) | go_keep)
                      (first
                      | (go_at_call 56; (with_reducible refine (D6.out _).mono ?_); rintro e9 W9 ⟨rfl, hk⟩
                         with_reducible (first | replace HW := StF.below HW hk | replace HW := StF.below HW.drew hk | replace HW := StF.below (HW.alloc _) hk | replace HW := StF.below (HW.drew.alloc _) hk | replace HW := StF.below (HW.alloc _).drew hk)
                         clear hk)
                      | (go_at_call 57; (with_reducible refine (D7.out _).mono ?_); rintro e9 W9 ⟨rfl, hk⟩
                         with_reducible (first | replace HW := StF.below HW hk | replace HW := StF.below HW.drew hk | replace HW := StF.below (HW.alloc _) hk | replace HW := StF.below (HW.drew.alloc _) hk | replace HW := StF.below (HW.alloc _).drew hk)
                         clear hk))
                    all_goals
                      go_wp2_with fail
                      go_roundw
                      case rel => exact ⟨k2 + 1, ca8, by omega, int_is (by omega), rfl, TT.out, by have := cZ.out; omega, HW.f⟩
                      case measure => simp only [intOf]; omega
            · obtain rfl : k2 = en := by omega
              have HE := Lib.hid (show o2 = textOf (S.rules.map ruleTexts ++ (S.zones.take (j + 1)).flatMap zoneLines) by
                have l1 := LE.out
                rw [HO.out, FN.out, ← List.append_assoc, textOf_app, HO2.out, ← l1, zHead_all (z := ⟨nm, es⟩) (by intro c; simp only at c; rw [c] at l1; simp at l1; omega)])
              clear HO HO2 FN
              go_wp2_with fail
              go_roundw
              case rel => exact ⟨j + 1, o2, by omega, int_is (by omega), rfl, HE.out, by omega, HP⟩
              case measure => simp only [intOf]; omega
        · obtain rfl : j = m := by omega
          have E2 : S.zones.take j = S.zones := List.take_of_length_le (by rw [LS.out]; exact Nat.le_refl _)
          have HO1 := Lib.hid (show o = textOf (S.rules.map ruleTexts ++ S.zones.flatMap zoneLines ++ (S.links.map linkTexts).take 0) by rw [HO.out, E2]; simp)
          have zo1 : o.size ≤ 2000000 + 600 * 0 := by omega
          have qec : q ≤ e := HV.out.links.cap
          have qex : e ≤ 9223372036854775807 := HV.out.links.max
          clear HO E2 zo h4
          go_wp2_with fail
          go_loopw [3, 11] (fun vo v wr => ∃ (i : Nat) (o : ByteArray), i ≤ q ∧ v = .int .i64 i ∧ vo = .string o ∧ o = textOf (S.rules.map ruleTexts ++ S.zones.flatMap zoneLines ++ (S.links.map linkTexts).take i) ∧ o.size ≤ 2000000 + 600 * i ∧ StF w [.slice A k c, .slice B j d, .slice C q e] (fun _ => True) wr) (fun _ v _ => q - (intOf v).toNat)
          case atStart => exact ⟨0, o, by omega, rfl, rfl, HO1.out, zo1, HP⟩
          case round =>
            clear HP p0 p1 p2 HO1 zo1
            obtain ⟨i, o, hi, rfl, rfl, ho, zo, HP⟩ := hrel
            have HO := Lib.hid ho
            clear ho
            obtain ⟨_, p0, p1, p2, _⟩ := HP.b.three
            by_cases h4 : i < q
            · obtain ⟨x, hxx⟩ : ∃ x, S.links[i]? = some x := ⟨_, List.getElem?_eq_getElem (by rw [LL.out]; exact h4)⟩
              obtain ⟨g, o9, ea0, hg, ca⟩ := (HV.out.links.below HP.hb).cells (by show 0 < q; omega)
              replace ea0 : C = some ⟨g, o9, none⟩ := ea0
              subst ea0
              have xm := List.mem_of_getElem? hxx
              have XK := OK.out.2.2.2.2.2 x xm
              have zt := (place_bare XK.1).2.1
              have zn := (place_bare XK.2).2.1
              have TX := Lib.hid ((link_sum x o).trans (show o ++ spc (linkTexts x) ++ nlT = textOf (S.rules.map ruleTexts ++ S.zones.flatMap zoneLines ++ (S.links.map linkTexts).take (i + 1)) by rw [HO.out, take_next (show (S.links.map linkTexts)[i]? = some (linkTexts x) by rw [List.getElem?_map, hxx]; rfl), ← List.append_assoc, textOf_snoc]))
              have ra := row_at ca (show (S.links.map Lk.vals)[i]? = some (Lk.vals x) by rw [List.getElem?_map, hxx]; rfl)
              obtain ⟨ta, nm⟩ := x
              have x0 : wr.cell? ⟨g, o9 + i * 2, none⟩ = some (.string ta) := ra 0 _ rfl
              have x1 : wr.cell? ⟨g, o9 + i * 2 + 1, none⟩ = some (.string nm) := ra 1 _ rfl
              simp only at zt zn TX
              clear ca ra hxx xm XK HO
              have sz := zo
              have qz : (⟨#[76, 105, 110, 107, 32]⟩ : ByteArray).size = 5 := rfl
              have lc0 := fun W => run_string_add_sum (P := Tryz.prog) W o ⟨#[76, 105, 110, 107, 32]⟩ (by omega)
              replace sz : (o ++ ⟨#[76, 105, 110, 107, 32]⟩).size ≤ 2000000 + 600 * i + 5 := by rw [ByteArray.size_append]; omega
              clear qz
              generalize o ++ ⟨#[76, 105, 110, 107, 32]⟩ = lca0 at *
              have qz : (ta : ByteArray).size ≤ 40 := by omega
              have lc1 := fun W => run_string_add_sum (P := Tryz.prog) W lca0 ta (by omega)
              replace sz : (lca0 ++ ta).size ≤ 2000000 + 600 * i + 45 := by rw [ByteArray.size_append]; omega
              clear qz
              generalize lca0 ++ ta = lca1 at *
              have qz : (⟨#[32]⟩ : ByteArray).size = 1 := rfl
              have lc2 := fun W => run_string_add_sum (P := Tryz.prog) W lca1 ⟨#[32]⟩ (by omega)
              replace sz : (lca1 ++ ⟨#[32]⟩).size ≤ 2000000 + 600 * i + 46 := by rw [ByteArray.size_append]; omega
              clear qz
              generalize lca1 ++ ⟨#[32]⟩ = lca2 at *
              have qz : (nm : ByteArray).size ≤ 40 := by omega
              have lc3 := fun W => run_string_add_sum (P := Tryz.prog) W lca2 nm (by omega)
              replace sz : (lca2 ++ nm).size ≤ 2000000 + 600 * i + 86 := by rw [ByteArray.size_append]; omega
              clear qz
              generalize lca2 ++ nm = lca3 at *
              have qz : (⟨#[10]⟩ : ByteArray).size = 1 := rfl
              have lc4 := fun W => run_string_add_sum (P := Tryz.prog) W lca3 ⟨#[10]⟩ (by omega)
              replace sz : (lca3 ++ ⟨#[10]⟩).size ≤ 2000000 + 600 * i + 87 := by rw [ByteArray.size_append]; omega
              clear qz
              generalize lca3 ++ ⟨#[10]⟩ = lca4 at *
              have lcZ := Lib.hid sz
              clear sz
              go_upto_region 30 with (fail)
              go_quiet (fail)
              go_wp2_with fail
              go_roundw
              case rel => exact ⟨i + 1, lca4, by omega, int_is (by omega), rfl, TX.out, by have := lcZ.out; omega, HP.below (below_drewN (Below.refl _ _) _)⟩
              case measure => simp only [intOf]; omega
            · obtain rfl : i = q := by omega
              have HE := Lib.hid (show o = srcText S by
                rw [HO.out, List.take_of_length_le (by rw [List.length_map, LL.out]; exact Nat.le_refl _)]
                rfl)
              go_wp2_with fail
              go_ret
              exact ⟨by rw [← HE.out]; rfl, HP.hb⟩
end Go.Proofs.YtnkmlfbnfndfpaaGreatDoor
