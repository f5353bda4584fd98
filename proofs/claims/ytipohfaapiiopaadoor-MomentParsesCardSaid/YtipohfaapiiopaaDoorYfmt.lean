/- Package moment: a number's digits by the library, two digits, a name's beginning. -/
import Derived.Test.YtipohfaapiiopaaDoorGy
import Derived.Test.YtipohfaapiiopaaDoorUdig
import Derived.Lib.ItoaMem
import Derived.Lib.AppendIntMem
import Derived.WalkKit
import Derived.BigCall
namespace Go.Proofs.YtipohfaapiiopaaDoor
open Go.RowKit Go.Sort Go.Lib

theorem dec_is : ∀ (d u : Nat), u ≤ d → Lib.decDigits u = dec u := by
  intro d
  induction d with
  | zero => intro u h; rw [Lib.decDigits, dif_pos (by omega), dec_small (by omega)]
  | succ d ih =>
    intro u h
    by_cases hu : u < 10
    · rw [Lib.decDigits, dif_pos hu, dec_small hu]
    · rw [Lib.decDigits, dif_neg hu, dec_big hu, ih (u / 10) (by omega)]
theorem decB_is (u : Nat) : (⟨(Lib.decDigits u).toArray⟩ : ByteArray) = decB u := by
  unfold decB
  rw [dec_is u u (Nat.le_refl _)]
theorem holds_zero0 (w : World) (T : TypeId) (nd : Nat) (hs : nd ≤ 24) : Holds (fun (b : UInt8) => Value.int .u8 (b.toNat : Int)) (w.alloc (.cells zeros24 T)) w.heap.size 0 (Array.replicate nd (0 : UInt8)) := fun j hj => by
  have hj' : j < nd := by simpa using hj
  refine ⟨?_, World.frozen?_alloc_new _ _ _ _⟩
  rw [World.cell?_alloc_new, zeros24_at _ (by omega), getElem!_pos _ j hj]
  simp
theorem below_row (w : World) (o : Obj) (dk : Array UInt8) (k : Nat) : Below w.heap.size w ((putRow (fun (b : UInt8) => Value.int .u8 (b.toNat : Int)) (w.alloc o) w.heap.size 0 dk).drewN k) := by
  refine below_drewN ?_ k
  rw [alloc_eq_grow]
  obtain ⟨os', _, e⟩ := putRow_grow_new (fun (b : UInt8) => Value.int .u8 (b.toNat : Int)) w #[o] w.heap.size 0 dk (Nat.le_refl _)
  rw [e]
  exact ⟨rfl, rfl, rfl, by simp [grow], fun j hj => heap_grow_old w os' hj⟩
set_option maxHeartbeats 4000000 in
set_option maxRecDepth 100000 in
theorem fmt_small (u : Nat) (h : u < 100) (w : World) : Calls Tryd.prog 72 #[.int .u64 u, .int .i64 10] w (RetV w (.string (decB u))) := by
  have E := Lib.hid (decB_is u)
  have SM := Lib.hid (yinternal_strconv_small u h)
  have k1 : IntKind.i64.wrap (u : Int) = u := IntWalk.i64_in _ (by omega)
  have d : decide ((u : Int) < 100) = true := decide_eq_true (by omega)
  go_enter Tryd.func72, Tryd.ntmps72
  go_wp2_with fail
  refine (SM.out _).mono ?_
  rintro e w' ⟨rfl, rfl⟩
  go_wp2
  go_ret
  exact ⟨by rw [← E.out]; rfl, Below.refl _ _⟩
set_option maxHeartbeats 4000000 in
set_option maxRecDepth 100000 in
theorem fmt_big (u : Nat) (h : ¬ u < 100) (hu64 : u < 18446744073709551616) (w : World) (htab : Lib.TabIs Tryd.prog w "internal/strconv.uint64pow10" .u64 Lib.pow10Tab) : Calls Tryd.prog 72 #[.int .u64 u, .int .i64 10] w (RetV w (.string (decB u))) := by
  have E := Lib.hid (decB_is u)
  have hu1 : 1 ≤ u := by omega
  have d : decide ((u : Int) < 100) = false := decide_eq_false (by omega)
  have hnd20 : Lib.nDigits u ≤ 20 := by have := Lib.numDigits_eq u hu1 hu64; split at this <;> omega
  have hal : Tryd.prog.arrayLen 98 = 24 := by kernel_rfl
  have hsl1 : ∀ W, (Instr.sliceAt 98 (.pointer (some ⟨w.heap.size, 0, none⟩)) none (some (.int .i64 (Lib.nDigits u : Int))) none).run Tryd.prog W = .ok (.slice (some ⟨w.heap.size, 0, none⟩) (Lib.nDigits u) 24) W := fun W => by
    rw [run_sliceAt_array_h W 98 ⟨w.heap.size, 0, none⟩ (by simp [Program.arrayLen, Program.elem, Tryd.underlying98]) .i64 (Lib.nDigits u : Int) (by omega) (by rw [hal]; omega)]
    go_simp
    try omega
  have hH0 := holds_zero0 w 98 (Lib.nDigits u) (by omega)
  have hfmt := yinternal_strconv_formatBase10 w.heap.size 0 24 u (Array.replicate (Lib.nDigits u) 0) (w.alloc (.cells Lib.zeros24 98)) hH0 (by rw [Array.size_replicate]; exact Lib.lt_pow_nDigits u) hu64 (by rw [Array.size_replicate]; omega)
  rw [Array.size_replicate] at hfmt
  have HH0 := Lib.hid hH0
  have TB := Lib.hid (Lib.tabIs_alloc htab)
  clear hH0 hal htab
  go_enter Tryd.func72, Tryd.ntmps72
  go_wp2_with (first
    | (go_at_call 86; refine (yinternal_strconv_numDigits u hu1 hu64 _ (TB.out _)).mono ?_; rintro e w' ⟨rfl, rfl⟩))
  go_at_call 87
  refine hfmt.mono ?_
  rintro e w' ⟨rfl, k, v', dk, rfl, hF⟩
  have hcv : (convert 94 9 (.slice (some ⟨w.heap.size, 0, none⟩) (Lib.nDigits u) 24)).run Tryd.prog ((putRow (fun (b : UInt8) => Value.int .u8 (b.toNat : Int)) (w.alloc (.cells Lib.zeros24 98)) w.heap.size 0 dk).drewN k) = .ok (.string ⟨(Lib.decDigits u).toArray⟩) ((putRow (fun (b : UInt8) => Value.int .u8 (b.toNat : Int)) (w.alloc (.cells Lib.zeros24 98)) w.heap.size 0 dk).drewN k) := by
    have h := run_convert_bytes_back (P := Tryd.prog) ((putRow (fun (b : UInt8) => Value.int .u8 (b.toNat : Int)) (w.alloc (.cells Lib.zeros24 98)) w.heap.size 0 dk).drewN k) 94 9 5 ⟨w.heap.size, 0, none⟩ 24 (Lib.decDigits u) Tryd.underlying94 Tryd.underlying5 Tryd.underlying9 (fun j hj => by
      rw [Lib.row_is_numeral hF j hj, Lib.add_plain, World.cell?_drewN]
      exact cell?_putRow (fun (b : UInt8) => Value.int .u8 (b.toNat : Int)) _ w.heap.size 0 _ dk HH0.out (by rw [hF.size, Array.size_replicate]) j (by rw [hF.size]; rw [Lib.decDigits_length] at hj; exact hj))
    rw [Lib.decDigits_length] at h
    exact h
  go_wp2
  go_ret
  exact ⟨by rw [← E.out]; rfl, below_row w _ dk k⟩
set_option maxRecDepth 100000 in
theorem fmtP (u : Nat) (hu64 : u < 18446744073709551616) (w : World) (htab : Lib.TabIs Tryd.prog w "internal/strconv.uint64pow10" .u64 Lib.pow10Tab) : Calls Tryd.prog 46 #[.int .u64 u, .int .i64 10] w (RetV w (.string (decB u))) := by
  have FP : Hid (∀ W, Lib.TabIs Tryd.prog W "internal/strconv.uint64pow10" .u64 Lib.pow10Tab → Calls Tryd.prog 72 #[.int .u64 u, .int .i64 10] W (RetV W (.string (decB u)))) := Lib.hid fun W h => by
    by_cases g : u < 100
    · exact fmt_small u g W
    · exact fmt_big u g hu64 W h
  have TB := Lib.hid htab
  clear htab
  go_enter Tryd.func46, Tryd.ntmps46
  go_wp2_with fail
  refine (FP.out _ TB.out).mono ?_
  rintro e w' ⟨rfl, hb⟩
  go_wp2
  go_ret
  exact ⟨rfl, hb⟩
set_option maxRecDepth 100000 in
theorem shortP (s : ByteArray) (h3 : 3 ≤ s.size) (w : World) : Calls Tryd.prog 42 #[.string s] w (fun e w' => e = .returned (.string (s.extract 0 3)) ∧ w = w') := by
  have l3 : (3 : Int) ≤ s.size := by omega
  go_enter Tryd.func42, Tryd.ntmps42
  go_wp2
  go_ret
  exact ⟨rfl, rfl⟩
/-- two bytes made a text -/
theorem bytes2_text (W : World) (x y : Int) (c d : UInt8) (hx : x = c.toNat) (hy : y = d.toNat) :
    (convert 94 9 (.slice (some ⟨W.heap.size, 0, none⟩) 2 2)).run Tryd.prog (W.alloc (.cells #[.int .u8 x, .int .u8 y] 5)) = .ok (.string ⟨[c, d].toArray⟩) (W.alloc (.cells #[.int .u8 x, .int .u8 y] 5)) := by
  refine run_convert_bytes_back (W.alloc (.cells #[.int .u8 x, .int .u8 y] 5)) 94 9 5 ⟨W.heap.size, 0, none⟩ 2 [c, d] Tryd.underlying94 Tryd.underlying5 Tryd.underlying9 ?_
  intro j hj
  have ea : ∀ j, ((⟨W.heap.size, 0, none⟩ : Addr).add j) = ⟨W.heap.size, 0 + j, none⟩ := by intro j; unfold Addr.add; split <;> simp_all
  rw [ea]
  match j, hj with
  | 0, _ => simp [hx]
  | 1, _ => simp [hy]
  | _ + 2, h => exact absurd h (Nat.not_lt.2 (by simp))
theorem tw_all : (List.range 100).all (fun n => decide (twB n = ⟨#[UInt8.ofNat (48 + n / 10), UInt8.ofNat (48 + n % 10)]⟩)) = true := by kernel_rfl
theorem tw_is {n : Nat} (h : n < 100) : twB n = ⟨#[UInt8.ofNat (48 + n / 10), UInt8.ofNat (48 + n % 10)]⟩ := of_decide_eq_true (List.all_eq_true.1 tw_all n (List.mem_range.2 h))
set_option maxRecDepth 100000 in
set_option maxHeartbeats 4000000 in
theorem twoP (n : Nat) (h : n < 100) (w : World) : Calls Tryd.prog 47 #[.int .u64 n] w (RetV w (.string (twB n))) := by
  have e := tw_is h
  have t1 : (UInt8.ofNat (48 + n / 10)).toNat = 48 + n / 10 := by rw [UInt8.toNat_ofNat']; omega
  have t2 : (UInt8.ofNat (48 + n % 10)).toNat = 48 + n % 10 := by rw [UInt8.toNat_ofNat']; omega
  generalize UInt8.ofNat (48 + n / 10) = c at *
  generalize UInt8.ofNat (48 + n % 10) = d at *
  have E := Lib.hid e
  have CV := Lib.hid (fun W x y hx hy => bytes2_text W x y c d hx hy)
  have T1 := Lib.hid t1
  have T2 := Lib.hid t2
  obtain ⟨a, ha⟩ : ∃ a : Int, (n : Int) / 10 = a := ⟨_, rfl⟩
  obtain ⟨b, hb⟩ : ∃ b : Int, (n : Int) % 10 = b := ⟨_, rfl⟩
  have ka : IntKind.u8.wrap a = a := by show a % 256 = a; omega
  have kb : IntKind.u8.wrap b = b := by show b % 256 = b; omega
  have ka2 : IntKind.u8.wrap (48 + a) = 48 + a := by show (48 + a) % 256 = _; omega
  have kb2 : IntKind.u8.wrap (48 + b) = 48 + b := by show (48 + b) % 256 = _; omega
  have cv := CV.out w (48 + a) (48 + b) (by rw [T1.out]; omega) (by rw [T2.out]; omega)
  clear t1 t2 CV e
  go_enter Tryd.func47, Tryd.ntmps47
  go_wp2
  go_ret
  exact ⟨by rw [E.out]; rfl, below_box _ _⟩
end Go.Proofs.YtipohfaapiiopaaDoor
