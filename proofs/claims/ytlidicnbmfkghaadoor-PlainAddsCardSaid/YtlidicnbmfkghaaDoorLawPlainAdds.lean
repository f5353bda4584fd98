/- PlainAdds: any number of nanoseconds on any date-time is the document's date-time, or is refused: for every input that can be read the call returns true, and each argument reads behind it as it read before. Condition: the package-level variables that the row lists hold what the program's own text lays in them; the card ties that to the text. -/
import Derived.Test.YtlidicnbmfkghaaDoorGa
import Derived.Test.YtlidicnbmfkghaaDoorNadds
import Derived.Test.YtlidicnbmfkghaaDoorPok
import Derived.Test.YtlidicnbmfkghaaDoorPlaid
import Derived.Test.YtlidicnbmfkghaaDoorCards
import Derived.Test.YtlidicnbmfkghaaDoorTie
import Derived.Test.YtlidicnbmfkghaaDoorOpen
import Derived.WideKeyArgs
import Derived.Lib.SmallJoins
import Derived.ChangeMaps5
import Derived.SevenTiedAt
namespace Go.Proofs.YtlidicnbmfkghaaDoor.plainAdds
open Go.ChangeMaps Go.Joins Go.ChangeShapes Go.WideShapes Go.ChangeAt Go.RowKit

theorem cells : Tryd.prog.cellsOf 30 = 2 := by kernel_rfl

theorem laid : laidOutB Tryd.prog = true := by kernel_rfl

set_option maxRecDepth 100000 in
theorem lifted (os : Os) (started : os.Started) (H : Type) (enc : TypeId × Value → H) :
    ReturnsInHanded {} Tryd.checked os 4 .any (fun w args => (Rows.plainAddsSpec.pre enc Tryd.prog Tryd.f4 [] false w args ∧ laidMetH Tryd.prog tabsLaid w) ∧ sizedMet enc Tryd.prog Tryd.f4 (OpenSpec.ofChange Rows.plainAddsSpec) false w args)
      (Rows.plainAddsSpec.post enc Tryd.prog Tryd.f4 false true false false) := by
  refine returnsInHanded_of_change_and (C := Tryd.checked) (X := fun w _ => laidMetH Tryd.prog tabsLaid w) (fun _ _ _ hh h => h.of_heap hh) own started (by kernel_rfl) Tryd.func4
    (ChangeSpec.witness_shaped (enc := enc) (C := Tryd.checked) (os := os) (X := fun w _ => laidMetH Tryd.prog tabsLaid w) false (World.doorLaid Tryd.prog 400 os) #[.agg #[.int .i64 0, .int .i64 0, .int .i64 0, .int .i64 0, .int .i64 0, .int .i64 0, .int .i64 0], .agg #[.int .i64 0, .int .u64 0]] 8 rfl (World.shaped_of_RefB (by kernel_rfl) (by kernel_rfl)) (by kernel_rfl) (by kernel_rfl) (by kernel_rfl) (tabs_met os _)) ?_
  intro W base args ds gs before hval0 hW _ _ hL _
  have L := tabs_of_laid hL
  have hval : ∀ (j : Nat) t v, Tryd.f4.params[j]? = some t → args[j]? = some v → Value.okWide Tryd.prog W .any base t v := hval0
  have hW' := hW
  obtain ⟨p, q, hA0, hV, rfl, hfz, hnd⟩ := hW
  have hA : DataW.TrodAll enc Tryd.prog W 0 (fun _ => true) true Tryd.f4.params.toList args.toList ds p := hA0
  rw [Tryd.params4] at hA hval
  obtain ⟨v0, vs0, d0, ds0, p0, q0, hargs, rfl, rfl, h0, r0⟩ := trodAll_cons hA
  obtain ⟨v1, vs1, d1, ds1, p1, q1, rfl, rfl, rfl, h1, r1⟩ := trodAll_cons r0
  obtain ⟨rfl, rfl, rfl⟩ := trodAll_nil r1
  obtain rfl : args = #[v0, v1] := by cases args; simp_all
  obtain ⟨rfl, rfl⟩ := trodVars_none hV
  have hk0 := h0
  obtain ⟨x0_0, x0_1, x0_2, x0_3, x0_4, x0_5, x0_6, rfl, rfl, i0_0, i0_1, i0_2, i0_3, i0_4, i0_5, i0_6⟩ := open_both Tryd.underlying27 (by kernel_rfl) rfl rfl (by kernel_rfl) (by kernel_rfl) Tryd.underlying23 Tryd.underlying25 (by kernel_rfl) (by kernel_rfl) Tryd.underlying3 Tryd.underlying3 Tryd.underlying3 Tryd.underlying3 Tryd.underlying3 Tryd.underlying3 Tryd.underlying3 (hval 0 27 v0 rfl rfl) h0
  obtain ⟨c1, b1, y1, u1, m1, rfl, rfl, rfl, hy1, hu1⟩ := open_agg2 Tryd.underlying30 (by kernel_rfl) cells (hval 1 30 v1 rfl rfl) h1
  obtain ⟨x1, e0, rfl, wx1⟩ := DataW.trod_int Tryd.underlying2 hy1
  obtain ⟨z1, e1, rfl, wz1⟩ := DataW.trod_int Tryd.underlying28 hu1
  simp at e0 e1
  subst e0 e1
  obtain ⟨iw1, eh1, el1⟩ := of_halves (in64 wx1) (bounds_u64 wz1).1 (bounds_u64 wz1).2
  clear hA0 hval0
  simp only [List.append_nil] at hW'
  have wk := plainAdds_walk plainP x0_0 x0_1 x0_2 x0_3 x0_4 x0_5 x0_6 (x1 * 18446744073709551616 + z1) i0_0 i0_1 i0_2 i0_3 i0_4 i0_5 i0_6 iw1 W L
  rw [eh1, el1] at wk
  refine wk.mono fun e W' ⟨he, hg⟩ => ?_
  subst he
  exact ⟨_, rfl, post_below (pa := []) (pv := []) hW' (fun _ _ _ => (trodAll_cons_mk (shut_bool Tryd.underlying4 _) trodAll_mk0)) (fun sp hsp => (trodAll_cons_mk (WideElems.Trod_stays laid (by kernel_rfl) (of_decide_eq_true (by kernel_rfl)) hk0 (fun x hx => by cases hx) (fun x hx => by cases hx)) (trodAll_cons_mk (shut_agg2 (y0 := (.lit (.int .i64 x1), [])) (y1 := (.lit (.int .u64 z1), [])) Tryd.underlying30 (by kernel_rfl) cells ⟨1, by simp [DataW.trod, Tryd.underlying2, wx1]⟩ ⟨1, by simp [DataW.trod, Tryd.underlying28, wz1]⟩) trodAll_mk0))) (fun _ _ => rfl) rfl
    hg (ok_one (by kernel_rfl) rfl (okWide_bool_mk Tryd.underlying4 _))⟩

theorem over : Rows.plainAddsRow.holds Tryd.pinned (OpenSpec.ofChange Rows.plainAddsSpec) :=
  OpenClaim.holds_of_wide 4 Tryd.f4 rfl rfl rfl rfl rfl rfl rfl ⟨rfl, rfl, rfl, rfl, rfl⟩ rfl rfl rfl rfl rfl (by kernel_rfl) Tryd.func4 (by kernel_rfl)
    (of_decide_eq_true (by kernel_rfl)) (by unfold Func.isWrapper; first | (rw [if_pos (by decide +kernel)]; kernel_rfl) | (rw [if_neg (by decide +kernel)]; exact ⟨rfl, rfl⟩))
    (fun os started H enc _ => lifted os started H enc)

theorem proved : Rows.PlainAddsCardSaid :=
  Claim7.holds_tied_plain_at .later [] [.data, .data] true (true, "83705989020b686515081f73d431200c2a0d6e0aba7ba5b47464a661e4ed103e") false
    over (fun _ h => by cases h) (by kernel_rfl) (fun _ h => by cases h) plainAdds_row_tie rfl ⟨rfl, rfl⟩ (by kernel_rfl) rfl
    (fun f fn hf hfn => by
      obtain rfl : f = 4 := Option.some.inj ((show Tryd.prog.funcNamed "analemma/analemmalaw07.PlainAdds" = some 4 by kernel_rfl).symm.trans hf) |>.symm
      obtain rfl : fn = Tryd.f4 := (Option.some.inj (Tryd.func4.symm.trans hfn)).symm
      exact ⟨by kernel_rfl, fun j t ht => by
        rw [Tryd.params4] at ht
        have hm : t ∈ [27, 30] := by simpa using Array.mem_of_getElem? ht
        have hall : ([27, 30].all fun u => !Tryd.prog.wantsStandIn u) = true := by kernel_rfl
        exact (show Tryd.prog.wantsStandIn t = false by simpa using List.all_eq_true.1 hall t hm)⟩)
    (by kernel_rfl)
#print axioms proved
end Go.Proofs.YtlidicnbmfkghaaDoor.plainAdds
