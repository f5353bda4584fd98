/- What package wide's size, tenth and Text answer: a number's digits. -/
import Derived.Test.YtpjhenipeafbiaaWords
import Derived.Test.YtpjhenipeafbiaaDec
import Derived.Laws.IdiomStrings
namespace Go.Proofs.Ytpjhenipeafbiaa
open Go.RowKit

theorem wideTenth (hi lo : Int) (h0 : 0 ≤ hi) (h1 : hi ≤ 18446744073709551615) (h2 : 0 ≤ lo) (h3 : lo ≤ 18446744073709551615) (w : World) :
    Calls Try.prog 52 #[.int .u64 hi, .int .u64 lo] w (RetV w (.tuple #[.int .u64 (hi / 10), .int .u64 ((hi % 10 * 18446744073709551616 + lo) / 10), .int .u64 ((hi % 10 * 18446744073709551616 + lo) % 10)])) := by
  have D := fun W => div64_ten (hi % 10) lo W (by omega) (by omega) h2 h3
  have e1 : hi.tmod 10 = hi % 10 := Int.tmod_eq_emod_of_nonneg h0
  have e2 : hi.tdiv 10 = hi / 10 := Int.tdiv_eq_ediv_of_nonneg h0
  generalize (hi % 10 * 18446744073709551616 + lo) / 10 = q at *
  generalize (hi % 10 * 18446744073709551616 + lo) % 10 = r at *
  go_enter Try.func52, Try.ntmps52
  go_wp2_with (go_at_call 60; refine (D _).mono ?_; rintro e w' ⟨rfl, hb⟩)
  go_ret3
  exact ⟨rfl, hb⟩

/-- a number without its sign, in two halves -/
def ahi (z : Int) : Int := (z.natAbs : Int) / 18446744073709551616
def alo (z : Int) : Int := (z.natAbs : Int) % 18446744073709551616

theorem wideSize (z : Int) (h : InW z) (w : World) :
    Calls Try.prog 51 #[.agg #[.int .i64 (hiW z), .int .u64 (loW z)]] w (RetV w (.tuple #[.int .u64 (ahi z), .int .u64 (alo z)])) := by
  have P := Pair.new w (.int .i64 (hiW z)) (.int .u64 (loW z)) 24
  have HB := below_box w (.cells #[.int .i64 (hiW z), .int .u64 (loW z)] 24)
  obtain ⟨i1, i2, i3, i4⟩ := halves h
  have hw := IntKind.wrap_u64 (hiW z)
  by_cases hs : 0 ≤ hiW z
  · have e1 := Lib.hid (show ahi z = hiW z by unfold ahi; unfold hiW at *; omega)
    have e2 := Lib.hid (show alo z = loW z by unfold alo; unfold hiW loW at *; omega)
    have hw' : IntKind.u64.wrap (hiW z) = hiW z := by rw [hw]; unfold In64 at i1; omega
    clear hw i4
    go_enter Try.func51, Try.ntmps51
    go_wp2_with fail
    generalize w.alloc (.cells #[.int .i64 (hiW z), .int .u64 (loW z)] 24) = w0 at *
    obtain ⟨_, a0, a1, _, _⟩ := id P
    go_region
    go_wp2
    go_ret2
    exact ⟨by rw [e1.out, e2.out]; rfl, HB.drew⟩
  · have hb0 : 0 ≤ bor 0 (loW z) := by unfold bor; split <;> decide
    have hb1 : bor 0 (loW z) ≤ 1 := by unfold bor; split <;> decide
    have hu0 : 0 ≤ IntKind.u64.wrap (hiW z) := by rw [hw]; omega
    have hu1 : IntKind.u64.wrap (hiW z) < 18446744073709551616 := by rw [hw]; omega
    have S1 := fun W => sub64_0 0 (loW z) (by decide) i2 (by omega) W
    have S2 := fun W => sub64 0 (IntKind.u64.wrap (hiW z)) (bor 0 (loW z)) (by decide) hu0 hu1 hb0 hb1 W
    have f1 : (0 - IntKind.u64.wrap (hiW z) - bor 0 (loW z)) % 18446744073709551616 = ahi z := by
      rw [hw]; unfold bor ahi; unfold In64 at i1; split <;> omega
    have f2 : (0 - loW z) % 18446744073709551616 = alo z := by unfold alo; omega
    rw [f1] at S2
    rw [f2] at S1
    have hneg : hiW z < 0 := by omega
    clear hw i4 f1 f2 hb0 hb1 hu0 hu1
    generalize bor 0 (loW z) = B at *
    generalize bor 0 (IntKind.u64.wrap (hiW z) + B) = C at *
    go_enter Try.func51, Try.ntmps51
    go_wp2_with (first | simp only [S1] | simp only [S2])
    go_ret2
    exact ⟨rfl, HB⟩
end Go.Proofs.Ytpjhenipeafbiaa
