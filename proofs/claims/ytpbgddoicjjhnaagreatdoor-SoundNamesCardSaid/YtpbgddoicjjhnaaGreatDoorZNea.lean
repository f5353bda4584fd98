/- The document's answer of layer 13: Light, beyond, flaw; where a name stands first. -/
import Derived.Test.YtpbgddoicjjhnaaGreatDoorZGnb
import Derived.Test.YtpbgddoicjjhnaaGreatDoorZGne
set_option maxRecDepth 100000
set_option maxHeartbeats 64000000
namespace Go.Proofs.YtpbgddoicjjhnaaGreatDoor
open Go.RowKit Go.Maps Go.WideShapes
def RetLi (w : World) (n m q : Nat) (e : Ending) (w' : World) : Prop := ∃ r : Bool, e = .returned (.bool r) ∧ (r = true → n ≤ 60 ∧ m ≤ 60 ∧ q ≤ 200) ∧ Below w.heap.size w w'
theorem lightDR (S : Sr) (a b c : Hd) (ze : List Ze) (w : World) (hv : SrcV w S a b c ze) : Calls Tryz.prog 7 #[.agg #[a.val, b.val, c.val]] w (RetLi w a.n b.n c.n) := by
  have HR := Lib.hid (show RulV w a.a a.n a.c S.rules from hv.rules)
  have HZ := Lib.hid (show Rs 2 w b.a b.n b.c (ze.map Ze.vals) from hv.zones)
  have LR := Lib.hid (show S.rules.length = a.n by have := HR.out.len; simpa using this)
  have LZ := Lib.hid (show ze.length = b.n by have := HZ.out.len; simpa using this)
  have m1 : a.n ≤ 9223372036854775807 := Nat.le_trans hv.rules.cap hv.rules.max
  have m2 : b.n ≤ 9223372036854775807 := Nat.le_trans hv.zones.cap hv.zones.max
  have m3 : c.n ≤ 9223372036854775807 := Nat.le_trans hv.links.cap hv.links.max
  clear hv
  obtain ⟨A, n, k⟩ := a
  obtain ⟨B, m, d⟩ := b
  obtain ⟨C, q, e⟩ := c
  simp only [Hd.val] at *
  go_enter Tryz.func7, Tryz.ntmps7
  go_upto_region 1 with (fail)
  have KB := (BK.nil w).lit [.slice A n k, .slice B m d, .slice C q e] 26
  rw [show ([.slice A n k, .slice B m d, .slice C q e] : List Value).toArray = #[.slice A n k, .slice B m d, .slice C q e] from rfl] at KB
  generalize w.alloc (.cells #[.slice A n k, .slice B m d, .slice C q e] 26) = W at *
  obtain ⟨_, x0, x1, x2, _⟩ := KB.head.three
  by_cases h1 : 60 < n
  · have d1 : decide ((n : Int) > 60) = true := decide_eq_true (by omega)
    go_wp2
    go_ret
    exact ⟨false, rfl, (fun h => by cases h), KB.hb⟩
  by_cases h2 : 60 < m
  · have d1 : decide ((n : Int) > 60) = false := decide_eq_false (by omega)
    have d2 : decide ((m : Int) > 60) = true := decide_eq_true (by omega)
    go_wp2
    go_ret
    exact ⟨false, rfl, (fun h => by cases h), KB.hb⟩
  by_cases h3 : 200 < q
  · have d1 : decide ((n : Int) > 60) = false := decide_eq_false (by omega)
    have d2 : decide ((m : Int) > 60) = false := decide_eq_false (by omega)
    have d3 : decide ((q : Int) > 200) = true := decide_eq_true (by omega)
    go_wp2
    go_ret
    exact ⟨false, rfl, (fun h => by cases h), KB.hb⟩
  have d1 : decide ((n : Int) > 60) = false := decide_eq_false (by omega)
  have d2 : decide ((m : Int) > 60) = false := decide_eq_false (by omega)
  have d3 : decide ((q : Int) > 200) = false := decide_eq_false (by omega)
  have SM := Lib.hid (show n ≤ 60 ∧ m ≤ 60 ∧ q ≤ 200 by omega)
  go_wp2_with fail
  clear d1 d2 d3 x0 x1 x2
  go_loopw [3, 4, 5] (fun v3 v4 v5 wr => ∃ (i : Nat) (lo hi : Int), i ≤ n ∧ v5 = .int .i64 i ∧ v3 = .int .i64 lo ∧ v4 = .int .i64 hi ∧ BK w [(w.heap.size, [.slice A n k, .slice B m d, .slice C q e])] wr) (fun _ _ v _ => n - (intOf v).toNat)
  case atStart => exact ⟨0, _, _, by omega, rfl, rfl, rfl, KB⟩
  case round =>
    clear KB
    obtain ⟨i, lo, hi, hi9, rfl, rfl, rfl, KB⟩ := hrel
    obtain ⟨_, x0, x1, x2, _⟩ := KB.head.three
    by_cases h4 : i < n
    · obtain ⟨x, hxx⟩ : ∃ x, S.rules[i]? = some x := ⟨_, List.getElem?_eq_getElem (by rw [LR.out]; exact h4)⟩
      obtain ⟨g, o, ea0, hg, ca⟩ := (HR.out.below KB.hb).cells (by omega)
      subst ea0
      have ra := row_at ca (show (S.rules.map Rl.vals)[i]? = some (Rl.vals x) by rw [List.getElem?_map, hxx]; rfl)
      have y1 : wr.cell? ⟨g, o + i * 11 + 1, none⟩ = some (.int .i64 x.fr) := ra 1 _ rfl
      have y2 : wr.cell? ⟨g, o + i * 11 + 2, none⟩ = some (.int .i64 x.last) := ra 2 _ rfl
      clear ca hxx ra
      generalize x.fr = fr at *
      generalize x.last = last at *
      go_wp2
      all_goals
        go_roundw
        case rel => exact ⟨i + 1, _, _, by omega, int_eqS (by omega), rfl, rfl, KB⟩
        case measure => simp only [intOf]; omega
    · obtain rfl : i = n := by omega
      go_wp2_with fail
      clear x0 x1 x2
      go_loopw [6, 7] (fun v6 v7 wr => ∃ j s : Nat, j ≤ m ∧ v7 = .int .i64 j ∧ v6 = .int .i64 s ∧ s ≤ 60 * j ∧ BK w [(w.heap.size, [.slice A i k, .slice B m d, .slice C q e])] wr) (fun _ v _ => m - (intOf v).toNat)
      case atStart => exact ⟨0, 0, by omega, rfl, rfl, by omega, KB⟩
      case round =>
        clear KB
        obtain ⟨j, s, hj, rfl, rfl, hs, KB⟩ := hrel
        obtain ⟨_, x0, x1, x2, _⟩ := KB.head.three
        by_cases h5 : j < m
        · obtain ⟨x, hxx⟩ : ∃ x, ze[j]? = some x := ⟨_, List.getElem?_eq_getElem (by rw [LZ.out]; exact h5)⟩
          obtain ⟨g, o, ea0, hg, ca⟩ := (HZ.out.below KB.hb).cells (by omega)
          subst ea0
          have ra := row_at ca (show (ze.map Ze.vals)[j]? = some (Ze.vals x) by rw [List.getElem?_map, hxx]; rfl)
          obtain ⟨⟨zn, es⟩, ⟨ea, en, ec⟩⟩ := x
          have y1 : wr.cell? ⟨g, o + j * 2 + 1, none⟩ = some (.slice ea en ec) := ra 1 _ rfl
          clear ca hxx ra
          by_cases h6 : 60 < en
          · have d6 : decide ((en : Int) > 60) = true := decide_eq_true (by omega)
            go_wp2
            go_ret
            exact ⟨false, rfl, (fun h => by cases h), KB.hb⟩
          · have d6 : decide ((en : Int) > 60) = false := decide_eq_false (by omega)
            have s60 := SM.out.2.1
            go_wp2
            go_roundw
            case rel => exact ⟨j + 1, s + en, by omega, int_eqS (by omega), int_eqS (by omega), by omega, KB⟩
            case measure => simp only [intOf]; omega
        · go_wp2
          all_goals
            go_ret
            exact ⟨_, rfl, fun _ => SM.out, KB.hb⟩
end Go.Proofs.YtpbgddoicjjhnaaGreatDoor
