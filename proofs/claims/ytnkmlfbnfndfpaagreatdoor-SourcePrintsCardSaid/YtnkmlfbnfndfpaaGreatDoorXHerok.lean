/- The document's answer of layer 10: may an era be? -/
import Derived.Test.YtnkmlfbnfndfpaaGreatDoorXHerat
import Derived.Test.YtnkmlfbnfndfpaaGreatDoorXHspec
set_option maxRecDepth 100000
set_option maxHeartbeats 64000000
namespace Go.Proofs.YtnkmlfbnfndfpaaGreatDoor
open Go.RowKit
theorem eraOkR (x : Er) (hx : x.in64) (w : World) : Calls Tryz.prog 68 #[x.val] w (RetV w (.bool (@decide x.ok (Classical.propDecidable _)))) := by
  obtain ⟨off, kind, save, rules, fmt, til, year, ⟨mo, ki, wd, da, ti, re⟩⟩ := x
  obtain ⟨_, _, _, hr, hf, _, _⟩ := hx
  have no : ∀ {p : Prop}, ¬ p → @decide p (Classical.propDecidable _) = false := fun h => @decide_eq_false _ (Classical.propDecidable _) h
  have yes : ∀ {p : Prop}, p → @decide p (Classical.propDecidable _) = true := fun h => @decide_eq_true _ (Classical.propDecidable _) h
  show Calls _ _ #[.agg #[.int .i64 off, .int .i64 kind, .int .i64 save, .string rules, .string fmt, .bool til, .int .i64 year, .int .i64 mo, .int .i64 ki, .int .i64 wd, .int .i64 da, .int .i64 ti, .int .i64 re]] w _
  by_cases h1 : off ≤ -86400
  · rw [no (fun c : Er.ok _ => by have := c.1.1; simp only at this; omega)]; exact eraN0 off kind save year mo ki wd da ti re rules fmt til hr hf w h1
  by_cases h2 : 86400 ≤ off
  · rw [no (fun c : Er.ok _ => by have := c.1.2; simp only at this; omega)]; exact eraN1 off kind save year mo ki wd da ti re rules fmt til hr hf w h1 h2
  by_cases h3 : 43200 < save
  · rw [no (fun c : Er.ok _ => by have := c.2.1.2; simp only at this; omega)]; exact eraN2 off kind save year mo ki wd da ti re rules fmt til hr hf w h1 h2 h3
  by_cases h4 : save < -43200
  · rw [no (fun c : Er.ok _ => by have := c.2.1.1; simp only at this; omega)]; exact eraN3 off kind save year mo ki wd da ti re rules fmt til hr hf w h1 h2 h3 h4
  cases h5 : formatB fmt with
  | false => rw [no (fun c : Er.ok _ => by have := c.2.2.1; simp only at this; rw [h5] at this; cases this)]; exact eraN4 off kind save year mo ki wd da ti re rules fmt til hr hf w h1 h2 h3 h4 h5
  | true =>
    by_cases h6 : kind < 0
    · rw [no (fun c : Er.ok _ => by have := c.2.2.2.1.1; simp only at this; omega)]; exact eraN5 off kind save year mo ki wd da ti re rules fmt til hr hf w h1 h2 h3 h4 h5 h6
    by_cases h7 : 2 < kind
    · rw [no (fun c : Er.ok _ => by have := c.2.2.2.1.2; simp only at this; omega)]; exact eraN6 off kind save year mo ki wd da ti re rules fmt til hr hf w h1 h2 h3 h4 h5 h6 h7
    have fin : ∀ (good : (kind ≠ 1 → save = 0) ∧ (kind ≠ 2 → rules = ⟨#[]⟩) ∧ (kind = 2 → setB rules = true)), Er.ok ⟨off, kind, save, rules, fmt, til, year, ⟨mo, ki, wd, da, ti, re⟩⟩ ↔ (til = true → (1 ≤ year ∧ year ≤ 9999) ∧ Sp.ok ⟨mo, ki, wd, da, ti, re⟩) ∧ (til = false → year = 0 ∧ (⟨mo, ki, wd, da, ti, re⟩ : Sp) = .zero) := fun good =>
      ⟨fun c => ⟨c.2.2.2.2.2.2.2.1, c.2.2.2.2.2.2.2.2⟩, fun c => ⟨⟨by simp only; omega, by simp only; omega⟩, ⟨by simp only; omega, by simp only; omega⟩, h5, ⟨by simp only; omega, by simp only; omega⟩, good.1, good.2.1, good.2.2, c.1, c.2⟩⟩
    have zero : (⟨mo, ki, wd, da, ti, re⟩ : Sp) = .zero ↔ mo = 0 ∧ ki = 0 ∧ wd = 0 ∧ da = 0 ∧ ti = 0 ∧ re = 0 := by
      unfold Sp.zero
      constructor
      · intro h; cases h; exact ⟨rfl, rfl, rfl, rfl, rfl, rfl⟩
      · rintro ⟨rfl, rfl, rfl, rfl, rfl, rfl⟩; rfl
    have ways : ∀ (_ : (kind ≠ 1 → save = 0) ∧ (kind ≠ 2 → rules = ⟨#[]⟩) ∧ (kind = 2 → setB rules = true)),
        (til = true → ¬ 1 ≤ year → Calls Tryz.prog 68 #[.agg #[.int .i64 off, .int .i64 kind, .int .i64 save, .string rules, .string fmt, .bool til, .int .i64 year, .int .i64 mo, .int .i64 ki, .int .i64 wd, .int .i64 da, .int .i64 ti, .int .i64 re]] w (RetV w (.bool false))) →
        (til = true → 1 ≤ year → ¬ year ≤ 9999 → Calls Tryz.prog 68 #[.agg #[.int .i64 off, .int .i64 kind, .int .i64 save, .string rules, .string fmt, .bool til, .int .i64 year, .int .i64 mo, .int .i64 ki, .int .i64 wd, .int .i64 da, .int .i64 ti, .int .i64 re]] w (RetV w (.bool false))) →
        (til = true → 1 ≤ year → year ≤ 9999 → Calls Tryz.prog 68 #[.agg #[.int .i64 off, .int .i64 kind, .int .i64 save, .string rules, .string fmt, .bool til, .int .i64 year, .int .i64 mo, .int .i64 ki, .int .i64 wd, .int .i64 da, .int .i64 ti, .int .i64 re]] w (RetV w (.bool (decide (Sp.ok ⟨mo, ki, wd, da, ti, re⟩))))) →
        (til = false → ¬ year = 0 → Calls Tryz.prog 68 #[.agg #[.int .i64 off, .int .i64 kind, .int .i64 save, .string rules, .string fmt, .bool til, .int .i64 year, .int .i64 mo, .int .i64 ki, .int .i64 wd, .int .i64 da, .int .i64 ti, .int .i64 re]] w (RetV w (.bool false))) →
        (til = false → year = 0 → (mo = 0 ∧ ki = 0 ∧ wd = 0 ∧ da = 0 ∧ ti = 0 ∧ re = 0) → Calls Tryz.prog 68 #[.agg #[.int .i64 off, .int .i64 kind, .int .i64 save, .string rules, .string fmt, .bool til, .int .i64 year, .int .i64 mo, .int .i64 ki, .int .i64 wd, .int .i64 da, .int .i64 ti, .int .i64 re]] w (RetV w (.bool true))) →
        (til = false → year = 0 → ¬ (mo = 0 ∧ ki = 0 ∧ wd = 0 ∧ da = 0 ∧ ti = 0 ∧ re = 0) → Calls Tryz.prog 68 #[.agg #[.int .i64 off, .int .i64 kind, .int .i64 save, .string rules, .string fmt, .bool til, .int .i64 year, .int .i64 mo, .int .i64 ki, .int .i64 wd, .int .i64 da, .int .i64 ti, .int .i64 re]] w (RetV w (.bool false))) →
        Calls Tryz.prog 68 #[.agg #[.int .i64 off, .int .i64 kind, .int .i64 save, .string rules, .string fmt, .bool til, .int .i64 year, .int .i64 mo, .int .i64 ki, .int .i64 wd, .int .i64 da, .int .i64 ti, .int .i64 re]] w (RetV w (.bool (@decide (Er.ok ⟨off, kind, save, rules, fmt, til, year, ⟨mo, ki, wd, da, ti, re⟩⟩) (Classical.propDecidable _)))) := by
      intro good a b c d e f
      have fi := fin good
      cases til with
      | true =>
        by_cases y1 : 1 ≤ year
        · by_cases y2 : year ≤ 9999
          · have := c rfl y1 y2
            by_cases ok : Sp.ok ⟨mo, ki, wd, da, ti, re⟩
            · rw [yes (fi.2 ⟨fun _ => ⟨⟨y1, y2⟩, ok⟩, fun h => by cases h⟩)]; rw [decide_eq_true ok] at this; exact this
            · rw [no (fun h => ok ((fi.1 h).1 rfl).2)]; rw [decide_eq_false ok] at this; exact this
          · rw [no (fun h => y2 ((fi.1 h).1 rfl).1.2)]; exact b rfl y1 y2
        · rw [no (fun h => y1 ((fi.1 h).1 rfl).1.1)]; exact a rfl y1
      | false =>
        by_cases y0 : year = 0
        · by_cases z : mo = 0 ∧ ki = 0 ∧ wd = 0 ∧ da = 0 ∧ ti = 0 ∧ re = 0
          · rw [yes (fi.2 ⟨fun h => (by cases h), fun _ => ⟨y0, zero.2 z⟩⟩)]; exact e rfl y0 z
          · rw [no (fun h => z (zero.1 ((fi.1 h).2 rfl).2))]; exact f rfl y0 z
        · rw [no (fun h => y0 ((fi.1 h).2 rfl).1)]; exact d rfl y0
    by_cases k0 : kind = 0
    · by_cases h8 : save = 0
      · by_cases h9 : rules = ⟨#[]⟩
        · exact ways ⟨fun _ => h8, fun _ => h9, fun h => by omega⟩ (fun t => eraT0_0 off kind save year mo ki wd da ti re rules fmt til hr hf w h1 h2 h3 h4 h5 h8 h9 k0 t) (fun t => eraT0_1 off kind save year mo ki wd da ti re rules fmt til hr hf w h1 h2 h3 h4 h5 h8 h9 k0 t) (fun t => eraT0_2 off kind save year mo ki wd da ti re rules fmt til hr hf w h1 h2 h3 h4 h5 h8 h9 k0 t) (fun t => eraT0_3 off kind save year mo ki wd da ti re rules fmt til hr hf w h1 h2 h3 h4 h5 h8 h9 k0 t) (fun t => eraT0_4 off kind save year mo ki wd da ti re rules fmt til hr hf w h1 h2 h3 h4 h5 h8 h9 k0 t) (fun t => eraT0_5 off kind save year mo ki wd da ti re rules fmt til hr hf w h1 h2 h3 h4 h5 h8 h9 k0 t)
        · rw [no (fun c : Er.ok _ => h9 (c.2.2.2.2.2.1 (by simp only; omega)))]; exact eraN8 off kind save year mo ki wd da ti re rules fmt til hr hf w h1 h2 h3 h4 h5 h8 h9 k0
      · rw [no (fun c : Er.ok _ => h8 (c.2.2.2.2.1 (by simp only; omega)))]; exact eraN7 off kind save year mo ki wd da ti re rules fmt til hr hf w h1 h2 h3 h4 h5 h8 k0
    by_cases k1 : kind = 1
    · by_cases h9 : rules = ⟨#[]⟩
      · exact ways ⟨fun h => absurd k1 h, fun _ => h9, fun h => by omega⟩ (fun t => eraT1_0 off kind save year mo ki wd da ti re rules fmt til hr hf w h1 h2 h3 h4 h5 h9 k1 t) (fun t => eraT1_1 off kind save year mo ki wd da ti re rules fmt til hr hf w h1 h2 h3 h4 h5 h9 k1 t) (fun t => eraT1_2 off kind save year mo ki wd da ti re rules fmt til hr hf w h1 h2 h3 h4 h5 h9 k1 t) (fun t => eraT1_3 off kind save year mo ki wd da ti re rules fmt til hr hf w h1 h2 h3 h4 h5 h9 k1 t) (fun t => eraT1_4 off kind save year mo ki wd da ti re rules fmt til hr hf w h1 h2 h3 h4 h5 h9 k1 t) (fun t => eraT1_5 off kind save year mo ki wd da ti re rules fmt til hr hf w h1 h2 h3 h4 h5 h9 k1 t)
      · rw [no (fun c : Er.ok _ => h9 (c.2.2.2.2.2.1 (by simp only; omega)))]; exact eraN9 off kind save year mo ki wd da ti re rules fmt til hr hf w h1 h2 h3 h4 h5 h9 k1
    have k2 : kind = 2 := by omega
    by_cases h8 : save = 0
    · cases h10 : setB rules with
      | true => exact ways ⟨fun _ => h8, fun h => absurd k2 h, fun _ => h10⟩ (fun t => eraT2_0 off kind save year mo ki wd da ti re rules fmt til hr hf w h1 h2 h3 h4 h5 h8 h10 k2 t) (fun t => eraT2_1 off kind save year mo ki wd da ti re rules fmt til hr hf w h1 h2 h3 h4 h5 h8 h10 k2 t) (fun t => eraT2_2 off kind save year mo ki wd da ti re rules fmt til hr hf w h1 h2 h3 h4 h5 h8 h10 k2 t) (fun t => eraT2_3 off kind save year mo ki wd da ti re rules fmt til hr hf w h1 h2 h3 h4 h5 h8 h10 k2 t) (fun t => eraT2_4 off kind save year mo ki wd da ti re rules fmt til hr hf w h1 h2 h3 h4 h5 h8 h10 k2 t) (fun t => eraT2_5 off kind save year mo ki wd da ti re rules fmt til hr hf w h1 h2 h3 h4 h5 h8 h10 k2 t)
      | false => rw [no (fun c : Er.ok _ => by have := c.2.2.2.2.2.2.1 k2; simp only at this; rw [h10] at this; cases this)]; exact eraN11 off kind save year mo ki wd da ti re rules fmt til hr hf w h1 h2 h3 h4 h5 h8 h10 k2
    · rw [no (fun c : Er.ok _ => h8 (c.2.2.2.2.1 (by simp only; omega)))]; exact eraN10 off kind save year mo ki wd da ti re rules fmt til hr hf w h1 h2 h3 h4 h5 h8 k2
end Go.Proofs.YtnkmlfbnfndfpaaGreatDoor
