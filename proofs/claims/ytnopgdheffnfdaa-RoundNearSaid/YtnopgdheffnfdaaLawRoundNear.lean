/- RoundNear: what is rounded lies less than an increment away, at most half of one where the mode says so, and stays when it is rounded again: for every input that can be read the call returns true, and each argument reads behind it as it read before. Conditions: none. -/
import Derived.Test.YtnopgdheffnfdaaPost
import Derived.Test.YtnopgdheffnfdaaLnear
import Derived.Lib.SmallJoins
import Derived.ChangeMaps5
namespace Go.Proofs.Ytnopgdheffnfdaa.roundNear
open Go.ChangeMaps Go.Joins Go.ChangeShapes Go.WideShapes Go.ChangeAt Go.RowKit

theorem cells : Try.prog.cellsOf 24 = 2 := by kernel_rfl

set_option maxRecDepth 100000 in
theorem lifted (os : Os) (started : os.Started) (H : Type) (enc : TypeId × Value → H) :
    ReturnsInHanded {} Try.checked os 7 .any (Rows.roundNearSpec.pre6 enc Try.prog Try.f7 Rows.roundNearRow.domain false) (Rows.roundNearSpec.post enc Try.prog Try.f7 false true false false) := by
  refine returnsInHanded_of_change (C := Try.checked) own started (by kernel_rfl) Try.func7
    (ChangeSpec.witness6 (enc := enc) (C := Try.checked) false ⟨#[], #[.agg #[.int .i64 0, .int .u64 0], .agg #[.int .i64 0, .int .u64 0], .int .i64 0], []⟩ 8 (by kernel_rfl) (by kernel_rfl) (by kernel_rfl) (by kernel_rfl)) ?_
  intro W base args ds gs before hval0 hW hcnd _
  have hval : ∀ (j : Nat) t v, Try.f7.params[j]? = some t → args[j]? = some v → Value.okWide Try.prog W .any base t v := hval0
  have hW' := hW
  obtain ⟨p, q, hA0, hV, rfl, hfz, hnd⟩ := hW
  have hA : DataW.TrodAll enc Try.prog W 0 (fun _ => true) true Try.f7.params.toList args.toList ds p := hA0
  rw [Try.params7] at hA hval
  obtain ⟨v0, vs0, d0, ds0, p0, q0, hargs, rfl, rfl, h0, r0⟩ := trodAll_cons hA
  obtain ⟨v1, vs1, d1, ds1, p1, q1, rfl, rfl, rfl, h1, r1⟩ := trodAll_cons r0
  obtain ⟨v2, vs2, d2, ds2, p2, q2, rfl, rfl, rfl, h2, r2⟩ := trodAll_cons r1
  obtain ⟨rfl, rfl, rfl⟩ := trodAll_nil r2
  obtain rfl : args = #[v0, v1, v2] := by cases args; simp_all
  obtain ⟨rfl, rfl⟩ := trodVars_none hV
  obtain ⟨c0, b0, y0, u0, m0, rfl, rfl, rfl, hy0, hu0⟩ := open_agg2 Try.underlying24 (by kernel_rfl) cells (hval 0 24 v0 rfl rfl) h0
  obtain ⟨x0, e0, rfl, wx0⟩ := DataW.trod_int Try.underlying2 hy0
  obtain ⟨z0, e1, rfl, wz0⟩ := DataW.trod_int Try.underlying22 hu0
  simp at e0 e1
  subst e0 e1
  obtain ⟨iw0, eh0, el0⟩ := of_halves (in64 wx0) (bounds_u64 wz0).1 (bounds_u64 wz0).2
  obtain ⟨c1, b1, y1, u1, m1, rfl, rfl, rfl, hy1, hu1⟩ := open_agg2 Try.underlying24 (by kernel_rfl) cells (hval 1 24 v1 rfl rfl) h1
  obtain ⟨x1, e0, rfl, wx1⟩ := DataW.trod_int Try.underlying2 hy1
  obtain ⟨z1, e1, rfl, wz1⟩ := DataW.trod_int Try.underlying22 hu1
  simp at e0 e1
  subst e0 e1
  obtain ⟨iw1, eh1, el1⟩ := of_halves (in64 wx1) (bounds_u64 wz1).1 (bounds_u64 wz1).2
  obtain ⟨a2, rfl, rfl, rfl, w2⟩ := open_int Try.underlying3 (hval 2 3 v2 rfl rfl) h2
  clear hA0 hval0
  simp only [List.append_nil] at hW'
  have wk := roundNear_walk (x0 * 18446744073709551616 + z0) (x1 * 18446744073709551616 + z1) a2 iw0 iw1 (in64 w2) W
  rw [eh0, el0, eh1, el1] at wk
  refine wk.mono fun e W' ⟨he, hg⟩ => ?_
  subst he
  exact ⟨_, rfl, post_below (pa := []) (pv := []) hW' (fun _ _ _ => (trodAll_cons_mk (shut_bool Try.underlying4 _) trodAll_mk0)) (fun sp hsp => (trodAll_cons_mk (shut_agg2 (y0 := (.lit (.int .i64 x0), [])) (y1 := (.lit (.int .u64 z0), [])) Try.underlying24 (by kernel_rfl) cells ⟨1, by simp [DataW.trod, Try.underlying2, wx0]⟩ ⟨1, by simp [DataW.trod, Try.underlying22, wz0]⟩) (trodAll_cons_mk (shut_agg2 (y0 := (.lit (.int .i64 x1), [])) (y1 := (.lit (.int .u64 z1), [])) Try.underlying24 (by kernel_rfl) cells ⟨1, by simp [DataW.trod, Try.underlying2, wx1]⟩ ⟨1, by simp [DataW.trod, Try.underlying22, wz1]⟩) (trodAll_cons_mk (shut_int Try.underlying3 w2) trodAll_mk0)))) (fun _ _ => rfl) rfl
    hg (ok_one (by kernel_rfl) rfl (okWide_bool_mk Try.underlying4 _))⟩

theorem over : Rows.roundNearRow.holds Try.pinned (OpenSpec.ofChange Rows.roundNearSpec) :=
  OpenClaim.holds_of_wide 7 Try.f7 rfl rfl rfl rfl rfl rfl rfl ⟨rfl, rfl, rfl, rfl, rfl⟩ rfl rfl rfl rfl rfl (by kernel_rfl) Try.func7 (by kernel_rfl)
    (of_decide_eq_true (by kernel_rfl)) (by unfold Func.isWrapper; first | (rw [if_pos (by decide +kernel)]; kernel_rfl) | (rw [if_neg (by decide +kernel)]; exact ⟨rfl, rfl⟩))
    (fun os started H enc _ => lifted os started H enc)

theorem proved : Rows.RoundNearSaid := over
#print axioms proved
end Go.Proofs.Ytnopgdheffnfdaa.roundNear
