/- Package moment: a spot out of its texts. -/
import Derived.Test.YtnkmlfbnfndfpaaGreatDoorXGl
import Derived.Test.YtnkmlfbnfndfpaaGreatDoorXUparsed
set_option maxRecDepth 100000
set_option maxHeartbeats 64000000
namespace Go.Proofs.YtnkmlfbnfndfpaaGreatDoor
open Go.RowKit
def putAll : List Value → Nat → List Value → List Value
  | vs, _, [] => vs
  | vs, k, u :: us => putAll (vs.set k u) (k + 1) us
theorem BK.copy {w : World} {L : List (Nat × List Value)} {b : Nat} : ∀ (us vs : List Value) (k : Nat) (W : World), BK w ((b, vs) :: L) W → w.heap.size ≤ b → (∀ x ∈ L, b ≠ x.1) → k + us.length ≤ vs.length → BK w ((b, putAll vs k us) :: L) (W.setCells b k us)
  | [], _, _, _, h, _, _, _ => h
  | u :: us, vs, k, W, h, hb, ne, hl => BK.copy us (vs.set k u) (k + 1) (W.setCell ⟨b, k, none⟩ u) (h.at hb ne k (by simp at hl; omega) u) hb ne (by simp at hl ⊢; omega)
theorem run_index_bool (t : TypeId) (n : Nat) (ht : Tryz.prog.underlying t = some (.array n 4)) (cs : Array Value) (k : IntKind) (i : Int) (w : World) (h : 0 ≤ i ∧ i < n) (v : Value) (hv : cs[i.toNat]? = some v) : (Instr.index t (.agg cs) (.int k i)).run Tryz.prog w = .ok v w := by
  simp [Instr.index, run_underlying ht, asIntOf, h, go_sem, Tryz.sizeOf4]
  rw [hv]
  simp
@[local go_sem] theorem ixb0 (v0 v1 v2 : Value) (k : IntKind) (w : World) : (Instr.index 200 (.agg #[v0, v1, v2]) (.int k 0)).run Tryz.prog w = .ok v0 w := run_index_bool 200 3 Tryz.underlying200 _ k 0 w (by decide) v0 rfl
@[local go_sem] theorem ixb1 (v0 v1 v2 : Value) (k : IntKind) (w : World) : (Instr.index 200 (.agg #[v0, v1, v2]) (.int k 1)).run Tryz.prog w = .ok v1 w := run_index_bool 200 3 Tryz.underlying200 _ k 1 w (by decide) v1 rfl
@[local go_sem] theorem ixb2 (v0 v1 v2 : Value) (k : IntKind) (w : World) : (Instr.index 200 (.agg #[v0, v1, v2]) (.int k 2)).run Tryz.prog w = .ok v2 w := run_index_bool 200 3 Tryz.underlying200 _ k 2 w (by decide) v2 rfl
def parse3 (x y z : ByteArray) : Sp × Int × Int :=
  if monthN x = 0 then (.zero, 0, 6) else if (dTup y).2.2.2 = false then (.zero, 1, 6) else match clockRes z with
    | none => (.zero, 2, 6)
    | some r => (⟨monthN x, (dTup y).1, (dTup y).2.1, (dTup y).2.2.1, r.1, r.2⟩, 0, 0)
theorem p_mon : monthN ⟨#[74, 97, 110, 117, 97, 114, 121]⟩ = 1 := by kernel_rfl
theorem p_day : dTup ⟨#[49]⟩ = (0, 0, 1, true) := by kernel_rfl
theorem p_clk : clockRes ⟨#[45]⟩ = some (0, 0) := by kernel_rfl
theorem parse_pad (l : List ByteArray) (h : l.length ≤ 3) : parseRes l = parse3 (l.getD 0 ⟨#[74, 97, 110, 117, 97, 114, 121]⟩) (l.getD 1 ⟨#[49]⟩) (l.getD 2 ⟨#[45]⟩) := by
  match l, h with
  | [], _ => show parseRes [] = parse3 ⟨#[74, 97, 110, 117, 97, 114, 121]⟩ ⟨#[49]⟩ ⟨#[45]⟩; unfold parse3; rw [p_mon, p_day, p_clk]; rfl
  | [a], _ =>
    show parseRes [a] = parse3 a ⟨#[49]⟩ ⟨#[45]⟩
    unfold parse3 parseRes
    rw [p_day, p_clk]
    by_cases m : monthN a = 0
    · simp [m]
    · simp [m]
  | [a, b], _ =>
    show parseRes [a, b] = parse3 a b ⟨#[45]⟩
    unfold parse3 parseRes
    rw [p_clk]
    by_cases m : monthN a = 0
    · simp [m]
    · by_cases d : (dTup b).2.2.2 = false
      · simp [m, d]
      · simp [m, d]
  | [a, b, c], _ =>
    show parseRes [a, b, c] = parse3 a b c
    unfold parse3 parseRes
    by_cases m : monthN a = 0
    · simp [m]
    · by_cases d : (dTup b).2.2.2 = false
      · simp [m, d]
      · simp only [m, d, if_false]
        cases clockRes c <;> simp
  | _ :: _ :: _ :: _ :: _, h => simp at h
theorem par_0 (A : Option Addr) (n c : Nat) (l : List ByteArray) (x y z : ByteArray) (hn : n ≤ 3) (hp : putAll [.string ⟨#[74, 97, 110, 117, 97, 114, 121]⟩, .string ⟨#[49]⟩, .string ⟨#[45]⟩] 0 (strs l) = [.string x, .string y, .string z]) (m v r e3 : Int) (b1 : Bool) (b2 : Bool)
    (RD : Hid (∀ W, Mom W → Calls Tryz.prog 183 #[.string y] W (fun e w' => ∃ ki wd da : Int, e = .returned (.tuple #[.agg #[.int .i64 0, .int .i64 ki, .int .i64 wd, .int .i64 da, .int .i64 0, .int .i64 0], .bool b1]) ∧ Hid (True) ∧ Below W.heap.size W w')))
    (MO : Hid (∀ W, Mom W → Calls Tryz.prog 184 #[.string x] W (RetNumB W m false)))
    (CK : Hid (∀ W, Calls Tryz.prog 185 #[.string z] W (RetCkM W (v, r, e3)))) (he : (e3 == 0) = b2) (w : World) (hS : Ss w A n c l) (T : Mom w) :
    Calls Tryz.prog 165 #[.slice A n c] w (fun e w' => e = .returned (.tuple #[.agg #[.int .i64 (0), .int .i64 (0), .int .i64 (0), .int .i64 (0), .int .i64 (0), .int .i64 (0)], .int .i64 0, .int .i64 6]) ∧ Below w.heap.size w w') := by
  have TT := Lib.hid T
  have SS := Lib.hid hS
  have HP := Lib.hid hp
  have HL := Lib.hid (show 0 + (strs l).length ≤ 3 by rw [strs_length, hS.len]; omega)
  have e3n : decide ((3 : Int) < n) = false := decide_eq_false (by omega)
  clear T hS hp
  go_enter Tryz.func165, Tryz.ntmps165
  go_upto_region 4 with (fail)
  have KB := ((BK.nil w).more6 (.int .i64 (0)) (.int .i64 (0)) (.int .i64 (0)) (.int .i64 (0)) (.int .i64 (0)) (.int .i64 (0)) 50).more3 (.string ⟨#[74, 97, 110, 117, 97, 114, 121]⟩) (.string ⟨#[49]⟩) (.string ⟨#[45]⟩) 167
  simp only [World.size_alloc] at KB
  generalize (w.alloc (.cells #[.int .i64 (0), .int .i64 (0), .int .i64 (0), .int .i64 (0), .int .i64 (0), .int .i64 (0)] 50)).alloc (.cells #[.string ⟨#[74, 97, 110, 117, 97, 114, 121]⟩, .string ⟨#[49]⟩, .string ⟨#[45]⟩] 167) = w0 at *
  have hr := copy_txt w0 (w.heap.size + 1) _ KB.head 3 rfl A n c l (SS.out.below KB.hb) hn
  have KC := BK.copy (strs l) _ 0 w0 KB (by omega) (by intro x hx; simp only [List.mem_cons, List.not_mem_nil, or_false] at hx; subst hx; simp) HL.out
  rw [HP.out] at KC
  clear KB SS HL HP e3n
  simp [go_sem] at hr
  go_upto_region 5 with (fail)
  clear hr
  generalize w0.setCells (w.heap.size + 1) 0 (strs l) = w1 at *
  obtain ⟨_, a0, a1, a2, f0, f1, f2⟩ := KC.head.three
  go_wp2_with fail
  clear a0 a1 a2 f0 f1 f2
  refine (RD.out _ (TT.out.mono KC.hb)).mono ?_
  clear RD
  rintro e w2 ⟨ki, wd, da, rfl, HD, hb⟩
  replace KC := KC.below hb
  clear hb
  go_upto_region 6 with (fail)
  have KD := KC.more6 (.int .i64 (0)) (.int .i64 (ki)) (.int .i64 (wd)) (.int .i64 (da)) (.int .i64 (0)) (.int .i64 (0)) 50
  have l1 := KC.head.lt
  clear KC
  generalize hg : w2.heap.size = g at *
  generalize w2.alloc (.cells #[.int .i64 0, .int .i64 ki, .int .i64 wd, .int .i64 da, .int .i64 0, .int .i64 0] 50) = w3 at *
  clear hg
  obtain ⟨_, a0, a1, a2, f0, f1, f2⟩ := KD.tail.head.three
  go_wp2_with fail
  clear a0 a1 a2 f0 f1 f2
  refine (MO.out _ (TT.out.mono KD.hb)).mono ?_
  clear MO TT
  rintro e w4 ⟨rfl, hb⟩
  replace KD := KD.below hb
  clear hb
  obtain ⟨_, a0, a1, a2, f0, f1, f2⟩ := KD.tail.head.three
  go_wp2_with fail
  clear a0 a1 a2 f0 f1 f2
  refine (CK.out _).mono ?_
  clear CK
  rintro e w5 ⟨rfl, hb⟩
  replace KD := KD.below hb
  clear hb
  go_wp2_with fail
  go_loop [47] (fun v47 => v47 = .int .i64 0) (fun v47 => (3 - intOf v47).toNat)
  case atStart => exact rfl
  case round =>
    subst hrel
    obtain ⟨_, r0, r1, r2, r3, r4, r5, rf0, rf1, rf2, rf3, rf4, rf5⟩ := KD.tail.tail.head.six
    go_wp2
    clear r0 r1 r2 r3 r4 r5 rf0 rf1 rf2 rf3 rf4 rf5
    obtain ⟨_, P0, P1, P2, P3, P4, P5, _⟩ := (KD.tail.tail.head.self6 (.int .i64 (0)) (.int .i64 (0)) (.int .i64 (0)) (.int .i64 (0)) (.int .i64 (0)) (.int .i64 (0))).six
    have HB := (KD.tail.tail.put6 (.int .i64 (0)) (.int .i64 (0)) (.int .i64 (0)) (.int .i64 (0)) (.int .i64 (0)) (.int .i64 (0)) (Nat.le_refl _) (by simp)).hb
    exact bodyPost_ret (v := .tuple #[.agg #[.int .i64 (0), .int .i64 (0), .int .i64 (0), .int .i64 (0), .int .i64 (0), .int .i64 (0)], .int .i64 0, .int .i64 6]) (by simp [results, Tryz.results165, go_sem, P0, P1, P2, P3, P4, P5]) rfl (⟨rfl, HB⟩)
theorem par_1 (A : Option Addr) (n c : Nat) (l : List ByteArray) (x y z : ByteArray) (hn : n ≤ 3) (hp : putAll [.string ⟨#[74, 97, 110, 117, 97, 114, 121]⟩, .string ⟨#[49]⟩, .string ⟨#[45]⟩] 0 (strs l) = [.string x, .string y, .string z]) (m v r e3 : Int) (b2 : Bool)
    (RD : Hid (∀ W, Mom W → Calls Tryz.prog 183 #[.string y] W (fun e w' => ∃ ki wd da : Int, e = .returned (.tuple #[.agg #[.int .i64 0, .int .i64 ki, .int .i64 wd, .int .i64 da, .int .i64 0, .int .i64 0], .bool false]) ∧ Hid (True) ∧ Below W.heap.size W w')))
    (MO : Hid (∀ W, Mom W → Calls Tryz.prog 184 #[.string x] W (RetNumB W m true)))
    (CK : Hid (∀ W, Calls Tryz.prog 185 #[.string z] W (RetCkM W (v, r, e3)))) (he : (e3 == 0) = b2) (w : World) (hS : Ss w A n c l) (T : Mom w) :
    Calls Tryz.prog 165 #[.slice A n c] w (fun e w' => e = .returned (.tuple #[.agg #[.int .i64 (0), .int .i64 (0), .int .i64 (0), .int .i64 (0), .int .i64 (0), .int .i64 (0)], .int .i64 1, .int .i64 6]) ∧ Below w.heap.size w w') := by
  have TT := Lib.hid T
  have SS := Lib.hid hS
  have HP := Lib.hid hp
  have HL := Lib.hid (show 0 + (strs l).length ≤ 3 by rw [strs_length, hS.len]; omega)
  have e3n : decide ((3 : Int) < n) = false := decide_eq_false (by omega)
  clear T hS hp
  go_enter Tryz.func165, Tryz.ntmps165
  go_upto_region 4 with (fail)
  have KB := ((BK.nil w).more6 (.int .i64 (0)) (.int .i64 (0)) (.int .i64 (0)) (.int .i64 (0)) (.int .i64 (0)) (.int .i64 (0)) 50).more3 (.string ⟨#[74, 97, 110, 117, 97, 114, 121]⟩) (.string ⟨#[49]⟩) (.string ⟨#[45]⟩) 167
  simp only [World.size_alloc] at KB
  generalize (w.alloc (.cells #[.int .i64 (0), .int .i64 (0), .int .i64 (0), .int .i64 (0), .int .i64 (0), .int .i64 (0)] 50)).alloc (.cells #[.string ⟨#[74, 97, 110, 117, 97, 114, 121]⟩, .string ⟨#[49]⟩, .string ⟨#[45]⟩] 167) = w0 at *
  have hr := copy_txt w0 (w.heap.size + 1) _ KB.head 3 rfl A n c l (SS.out.below KB.hb) hn
  have KC := BK.copy (strs l) _ 0 w0 KB (by omega) (by intro x hx; simp only [List.mem_cons, List.not_mem_nil, or_false] at hx; subst hx; simp) HL.out
  rw [HP.out] at KC
  clear KB SS HL HP e3n
  simp [go_sem] at hr
  go_upto_region 5 with (fail)
  clear hr
  generalize w0.setCells (w.heap.size + 1) 0 (strs l) = w1 at *
  obtain ⟨_, a0, a1, a2, f0, f1, f2⟩ := KC.head.three
  go_wp2_with fail
  clear a0 a1 a2 f0 f1 f2
  refine (RD.out _ (TT.out.mono KC.hb)).mono ?_
  clear RD
  rintro e w2 ⟨ki, wd, da, rfl, HD, hb⟩
  replace KC := KC.below hb
  clear hb
  go_upto_region 6 with (fail)
  have KD := KC.more6 (.int .i64 (0)) (.int .i64 (ki)) (.int .i64 (wd)) (.int .i64 (da)) (.int .i64 (0)) (.int .i64 (0)) 50
  have l1 := KC.head.lt
  clear KC
  generalize hg : w2.heap.size = g at *
  generalize w2.alloc (.cells #[.int .i64 0, .int .i64 ki, .int .i64 wd, .int .i64 da, .int .i64 0, .int .i64 0] 50) = w3 at *
  clear hg
  obtain ⟨_, a0, a1, a2, f0, f1, f2⟩ := KD.tail.head.three
  go_wp2_with fail
  clear a0 a1 a2 f0 f1 f2
  refine (MO.out _ (TT.out.mono KD.hb)).mono ?_
  clear MO TT
  rintro e w4 ⟨rfl, hb⟩
  replace KD := KD.below hb
  clear hb
  obtain ⟨_, a0, a1, a2, f0, f1, f2⟩ := KD.tail.head.three
  go_wp2_with fail
  clear a0 a1 a2 f0 f1 f2
  refine (CK.out _).mono ?_
  clear CK
  rintro e w5 ⟨rfl, hb⟩
  replace KD := KD.below hb
  clear hb
  go_wp2_with fail
  go_loop [47] (fun v47 => v47 = .int .i64 0 ∨ v47 = .int .i64 1) (fun v47 => (3 - intOf v47).toNat)
  case atStart => exact .inl rfl
  case round =>
    rcases hrel with rfl | rfl
    · go_wp2
      go_round
      case rel => exact .inr (rfl)
      case measure => simp [intOf]
    · obtain ⟨_, r0, r1, r2, r3, r4, r5, rf0, rf1, rf2, rf3, rf4, rf5⟩ := KD.tail.tail.head.six
      go_wp2
      clear r0 r1 r2 r3 r4 r5 rf0 rf1 rf2 rf3 rf4 rf5
      obtain ⟨_, P0, P1, P2, P3, P4, P5, _⟩ := (KD.tail.tail.head.self6 (.int .i64 (0)) (.int .i64 (0)) (.int .i64 (0)) (.int .i64 (0)) (.int .i64 (0)) (.int .i64 (0))).six
      have HB := (KD.tail.tail.put6 (.int .i64 (0)) (.int .i64 (0)) (.int .i64 (0)) (.int .i64 (0)) (.int .i64 (0)) (.int .i64 (0)) (Nat.le_refl _) (by simp)).hb
      exact bodyPost_ret (v := .tuple #[.agg #[.int .i64 (0), .int .i64 (0), .int .i64 (0), .int .i64 (0), .int .i64 (0), .int .i64 (0)], .int .i64 1, .int .i64 6]) (by simp [results, Tryz.results165, go_sem, P0, P1, P2, P3, P4, P5]) rfl (⟨rfl, HB⟩)
theorem par_2 (A : Option Addr) (n c : Nat) (l : List ByteArray) (x y z : ByteArray) (hn : n ≤ 3) (hp : putAll [.string ⟨#[74, 97, 110, 117, 97, 114, 121]⟩, .string ⟨#[49]⟩, .string ⟨#[45]⟩] 0 (strs l) = [.string x, .string y, .string z]) (m v r e3 : Int)
    (RD : Hid (∀ W, Mom W → Calls Tryz.prog 183 #[.string y] W (fun e w' => ∃ ki wd da : Int, e = .returned (.tuple #[.agg #[.int .i64 0, .int .i64 ki, .int .i64 wd, .int .i64 da, .int .i64 0, .int .i64 0], .bool true]) ∧ Hid (True) ∧ Below W.heap.size W w')))
    (MO : Hid (∀ W, Mom W → Calls Tryz.prog 184 #[.string x] W (RetNumB W m true)))
    (CK : Hid (∀ W, Calls Tryz.prog 185 #[.string z] W (RetCkM W (v, r, e3)))) (he : (e3 == 0) = false) (w : World) (hS : Ss w A n c l) (T : Mom w) :
    Calls Tryz.prog 165 #[.slice A n c] w (fun e w' => e = .returned (.tuple #[.agg #[.int .i64 (0), .int .i64 (0), .int .i64 (0), .int .i64 (0), .int .i64 (0), .int .i64 (0)], .int .i64 2, .int .i64 6]) ∧ Below w.heap.size w w') := by
  have TT := Lib.hid T
  have SS := Lib.hid hS
  have HP := Lib.hid hp
  have HL := Lib.hid (show 0 + (strs l).length ≤ 3 by rw [strs_length, hS.len]; omega)
  have e3n : decide ((3 : Int) < n) = false := decide_eq_false (by omega)
  clear T hS hp
  go_enter Tryz.func165, Tryz.ntmps165
  go_upto_region 4 with (fail)
  have KB := ((BK.nil w).more6 (.int .i64 (0)) (.int .i64 (0)) (.int .i64 (0)) (.int .i64 (0)) (.int .i64 (0)) (.int .i64 (0)) 50).more3 (.string ⟨#[74, 97, 110, 117, 97, 114, 121]⟩) (.string ⟨#[49]⟩) (.string ⟨#[45]⟩) 167
  simp only [World.size_alloc] at KB
  generalize (w.alloc (.cells #[.int .i64 (0), .int .i64 (0), .int .i64 (0), .int .i64 (0), .int .i64 (0), .int .i64 (0)] 50)).alloc (.cells #[.string ⟨#[74, 97, 110, 117, 97, 114, 121]⟩, .string ⟨#[49]⟩, .string ⟨#[45]⟩] 167) = w0 at *
  have hr := copy_txt w0 (w.heap.size + 1) _ KB.head 3 rfl A n c l (SS.out.below KB.hb) hn
  have KC := BK.copy (strs l) _ 0 w0 KB (by omega) (by intro x hx; simp only [List.mem_cons, List.not_mem_nil, or_false] at hx; subst hx; simp) HL.out
  rw [HP.out] at KC
  clear KB SS HL HP e3n
  simp [go_sem] at hr
  go_upto_region 5 with (fail)
  clear hr
  generalize w0.setCells (w.heap.size + 1) 0 (strs l) = w1 at *
  obtain ⟨_, a0, a1, a2, f0, f1, f2⟩ := KC.head.three
  go_wp2_with fail
  clear a0 a1 a2 f0 f1 f2
  refine (RD.out _ (TT.out.mono KC.hb)).mono ?_
  clear RD
  rintro e w2 ⟨ki, wd, da, rfl, HD, hb⟩
  replace KC := KC.below hb
  clear hb
  go_upto_region 6 with (fail)
  have KD := KC.more6 (.int .i64 (0)) (.int .i64 (ki)) (.int .i64 (wd)) (.int .i64 (da)) (.int .i64 (0)) (.int .i64 (0)) 50
  have l1 := KC.head.lt
  clear KC
  generalize hg : w2.heap.size = g at *
  generalize w2.alloc (.cells #[.int .i64 0, .int .i64 ki, .int .i64 wd, .int .i64 da, .int .i64 0, .int .i64 0] 50) = w3 at *
  clear hg
  obtain ⟨_, a0, a1, a2, f0, f1, f2⟩ := KD.tail.head.three
  go_wp2_with fail
  clear a0 a1 a2 f0 f1 f2
  refine (MO.out _ (TT.out.mono KD.hb)).mono ?_
  clear MO TT
  rintro e w4 ⟨rfl, hb⟩
  replace KD := KD.below hb
  clear hb
  obtain ⟨_, a0, a1, a2, f0, f1, f2⟩ := KD.tail.head.three
  go_wp2_with fail
  clear a0 a1 a2 f0 f1 f2
  refine (CK.out _).mono ?_
  clear CK
  rintro e w5 ⟨rfl, hb⟩
  replace KD := KD.below hb
  clear hb
  go_wp2_with fail
  go_loop [47] (fun v47 => v47 = .int .i64 0 ∨ v47 = .int .i64 1 ∨ v47 = .int .i64 2) (fun v47 => (3 - intOf v47).toNat)
  case atStart => exact .inl rfl
  case round =>
    rcases hrel with rfl | rfl | rfl
    · go_wp2
      go_round
      case rel => exact .inr (.inl rfl)
      case measure => simp [intOf]
    · go_wp2
      go_round
      case rel => exact .inr (.inr (rfl))
      case measure => simp [intOf]
    · obtain ⟨_, r0, r1, r2, r3, r4, r5, rf0, rf1, rf2, rf3, rf4, rf5⟩ := KD.tail.tail.head.six
      go_wp2
      clear r0 r1 r2 r3 r4 r5 rf0 rf1 rf2 rf3 rf4 rf5
      obtain ⟨_, P0, P1, P2, P3, P4, P5, _⟩ := (KD.tail.tail.head.self6 (.int .i64 (0)) (.int .i64 (0)) (.int .i64 (0)) (.int .i64 (0)) (.int .i64 (0)) (.int .i64 (0))).six
      have HB := (KD.tail.tail.put6 (.int .i64 (0)) (.int .i64 (0)) (.int .i64 (0)) (.int .i64 (0)) (.int .i64 (0)) (.int .i64 (0)) (Nat.le_refl _) (by simp)).hb
      exact bodyPost_ret (v := .tuple #[.agg #[.int .i64 (0), .int .i64 (0), .int .i64 (0), .int .i64 (0), .int .i64 (0), .int .i64 (0)], .int .i64 2, .int .i64 6]) (by simp [results, Tryz.results165, go_sem, P0, P1, P2, P3, P4, P5]) rfl (⟨rfl, HB⟩)
theorem par_yes (A : Option Addr) (n c : Nat) (l : List ByteArray) (x y z : ByteArray) (hn : n ≤ 3) (hp : putAll [.string ⟨#[74, 97, 110, 117, 97, 114, 121]⟩, .string ⟨#[49]⟩, .string ⟨#[45]⟩] 0 (strs l) = [.string x, .string y, .string z]) (m v r e3 : Int) (k1 k2 k3 : Int)
    (RD : Hid (∀ W, Mom W → Calls Tryz.prog 183 #[.string y] W (fun e w' => ∃ ki wd da : Int, e = .returned (.tuple #[.agg #[.int .i64 0, .int .i64 ki, .int .i64 wd, .int .i64 da, .int .i64 0, .int .i64 0], .bool true]) ∧ Hid (ki = k1 ∧ wd = k2 ∧ da = k3) ∧ Below W.heap.size W w')))
    (MO : Hid (∀ W, Mom W → Calls Tryz.prog 184 #[.string x] W (RetNumB W m true)))
    (CK : Hid (∀ W, Calls Tryz.prog 185 #[.string z] W (RetCkM W (v, r, e3)))) (he : (e3 == 0) = true) (w : World) (hS : Ss w A n c l) (T : Mom w) :
    Calls Tryz.prog 165 #[.slice A n c] w (fun e w' => e = .returned (.tuple #[.agg #[.int .i64 (m), .int .i64 (k1), .int .i64 (k2), .int .i64 (k3), .int .i64 (v), .int .i64 (r)], .int .i64 0, .int .i64 0]) ∧ Below w.heap.size w w') := by
  have TT := Lib.hid T
  have SS := Lib.hid hS
  have HP := Lib.hid hp
  have HL := Lib.hid (show 0 + (strs l).length ≤ 3 by rw [strs_length, hS.len]; omega)
  have e3n : decide ((3 : Int) < n) = false := decide_eq_false (by omega)
  clear T hS hp
  go_enter Tryz.func165, Tryz.ntmps165
  go_upto_region 4 with (fail)
  have KB := ((BK.nil w).more6 (.int .i64 (0)) (.int .i64 (0)) (.int .i64 (0)) (.int .i64 (0)) (.int .i64 (0)) (.int .i64 (0)) 50).more3 (.string ⟨#[74, 97, 110, 117, 97, 114, 121]⟩) (.string ⟨#[49]⟩) (.string ⟨#[45]⟩) 167
  simp only [World.size_alloc] at KB
  generalize (w.alloc (.cells #[.int .i64 (0), .int .i64 (0), .int .i64 (0), .int .i64 (0), .int .i64 (0), .int .i64 (0)] 50)).alloc (.cells #[.string ⟨#[74, 97, 110, 117, 97, 114, 121]⟩, .string ⟨#[49]⟩, .string ⟨#[45]⟩] 167) = w0 at *
  have hr := copy_txt w0 (w.heap.size + 1) _ KB.head 3 rfl A n c l (SS.out.below KB.hb) hn
  have KC := BK.copy (strs l) _ 0 w0 KB (by omega) (by intro x hx; simp only [List.mem_cons, List.not_mem_nil, or_false] at hx; subst hx; simp) HL.out
  rw [HP.out] at KC
  clear KB SS HL HP e3n
  simp [go_sem] at hr
  go_upto_region 5 with (fail)
  clear hr
  generalize w0.setCells (w.heap.size + 1) 0 (strs l) = w1 at *
  obtain ⟨_, a0, a1, a2, f0, f1, f2⟩ := KC.head.three
  go_wp2_with fail
  clear a0 a1 a2 f0 f1 f2
  refine (RD.out _ (TT.out.mono KC.hb)).mono ?_
  clear RD
  rintro e w2 ⟨ki, wd, da, rfl, HD, hb⟩
  replace KC := KC.below hb
  clear hb
  go_upto_region 6 with (fail)
  have KD := KC.more6 (.int .i64 (0)) (.int .i64 (ki)) (.int .i64 (wd)) (.int .i64 (da)) (.int .i64 (0)) (.int .i64 (0)) 50
  have l1 := KC.head.lt
  clear KC
  generalize hg : w2.heap.size = g at *
  generalize w2.alloc (.cells #[.int .i64 0, .int .i64 ki, .int .i64 wd, .int .i64 da, .int .i64 0, .int .i64 0] 50) = w3 at *
  clear hg
  obtain ⟨_, a0, a1, a2, f0, f1, f2⟩ := KD.tail.head.three
  go_wp2_with fail
  clear a0 a1 a2 f0 f1 f2
  refine (MO.out _ (TT.out.mono KD.hb)).mono ?_
  clear MO TT
  rintro e w4 ⟨rfl, hb⟩
  replace KD := KD.below hb
  clear hb
  obtain ⟨_, a0, a1, a2, f0, f1, f2⟩ := KD.tail.head.three
  go_wp2_with fail
  clear a0 a1 a2 f0 f1 f2
  refine (CK.out _).mono ?_
  clear CK
  rintro e w5 ⟨rfl, hb⟩
  replace KD := KD.below hb
  clear hb
  go_wp2_with fail
  obtain ⟨rfl, rfl, rfl⟩ := HD.out
  clear HD
  go_loop [47] (fun v47 => v47 = .int .i64 0 ∨ v47 = .int .i64 1 ∨ v47 = .int .i64 2 ∨ v47 = .int .i64 3) (fun v47 => (3 - intOf v47).toNat)
  case atStart => exact .inl rfl
  case round =>
    rcases hrel with rfl | rfl | rfl | rfl
    · go_wp2
      go_round
      case rel => exact .inr (.inl rfl)
      case measure => simp [intOf]
    · go_wp2
      go_round
      case rel => exact .inr (.inr (.inl rfl))
      case measure => simp [intOf]
    · go_wp2
      go_round
      case rel => exact .inr (.inr (.inr (rfl)))
      case measure => simp [intOf]
    · go_upto_region 14 with (fail)
      obtain ⟨_, j0, j1, j2, j3, j4, j5, jf0, jf1, jf2, jf3, jf4, jf5⟩ := KD.head.six
      go_upto_region 15 with (fail)
      clear j0 j1 j2 j3 j4 j5 jf0 jf1 jf2 jf3 jf4 jf5
      have KN := (((KD.at (by omega) (by intro x hx; simp only [List.mem_cons, List.not_mem_nil, or_false] at hx; rcases hx with rfl | rfl <;> simp <;> omega) 0 (by simp) (.int .i64 m)).at (by omega) (by intro x hx; simp only [List.mem_cons, List.not_mem_nil, or_false] at hx; rcases hx with rfl | rfl <;> simp <;> omega) 4 (by simp) (.int .i64 v)).at (by omega) (by intro x hx; simp only [List.mem_cons, List.not_mem_nil, or_false] at hx; rcases hx with rfl | rfl <;> simp <;> omega) 5 (by simp) (.int .i64 r))
      simp only [List.set] at KN
      generalize ((w5.setCell ⟨g, 0, none⟩ (.int .i64 m)).setCell ⟨g, 4, none⟩ (.int .i64 v)).setCell ⟨g, 5, none⟩ (.int .i64 r) = w6 at *
      obtain ⟨_, j0, j1, j2, j3, j4, j5, _⟩ := KN.head.six
      obtain ⟨_, r0, r1, r2, r3, r4, r5, rf0, rf1, rf2, rf3, rf4, rf5⟩ := KN.tail.tail.head.six
      go_wp2
      clear r0 r1 r2 r3 r4 r5 rf0 rf1 rf2 rf3 rf4 rf5 j0 j1 j2 j3 j4 j5
      obtain ⟨_, P0, P1, P2, P3, P4, P5, _⟩ := (KN.tail.tail.head.self6 (.int .i64 (m)) (.int .i64 (ki)) (.int .i64 (wd)) (.int .i64 (da)) (.int .i64 (v)) (.int .i64 (r))).six
      have HB := (KN.tail.tail.put6 (.int .i64 (m)) (.int .i64 (ki)) (.int .i64 (wd)) (.int .i64 (da)) (.int .i64 (v)) (.int .i64 (r)) (Nat.le_refl _) (by simp)).hb
      exact bodyPost_ret (v := .tuple #[.agg #[.int .i64 (m), .int .i64 (ki), .int .i64 (wd), .int .i64 (da), .int .i64 (v), .int .i64 (r)], .int .i64 0, .int .i64 0]) (by simp [results, Tryz.results165, go_sem, P0, P1, P2, P3, P4, P5]) rfl (⟨rfl, HB⟩)
theorem par_many (A : Option Addr) (n c : Nat) (hn : 3 < n) (w : World) : Calls Tryz.prog 165 #[.slice A n c] w (fun e w' => e = .returned (.tuple #[.agg #[.int .i64 (0), .int .i64 (0), .int .i64 (0), .int .i64 (0), .int .i64 (0), .int .i64 (0)], .int .i64 3, .int .i64 12]) ∧ Below w.heap.size w w') := by
  have e3n : decide ((3 : Int) < n) = true := decide_eq_true (by omega)
  go_enter Tryz.func165, Tryz.ntmps165
  go_upto_region 2 with (fail)
  have KB := ((BK.nil w).more6 (.int .i64 (0)) (.int .i64 (0)) (.int .i64 (0)) (.int .i64 (0)) (.int .i64 (0)) (.int .i64 (0)) 50)
  generalize w.alloc (.cells #[.int .i64 (0), .int .i64 (0), .int .i64 (0), .int .i64 (0), .int .i64 (0), .int .i64 (0)] 50) = w0 at *
  obtain ⟨_, r0, r1, r2, r3, r4, r5, rf0, rf1, rf2, rf3, rf4, rf5⟩ := KB.head.six
  go_wp2
  clear r0 r1 r2 r3 r4 r5 rf0 rf1 rf2 rf3 rf4 rf5
  obtain ⟨_, P0, P1, P2, P3, P4, P5, _⟩ := (KB.head.self6 (.int .i64 (0)) (.int .i64 (0)) (.int .i64 (0)) (.int .i64 (0)) (.int .i64 (0)) (.int .i64 (0))).six
  have HB := (KB.put6 (.int .i64 (0)) (.int .i64 (0)) (.int .i64 (0)) (.int .i64 (0)) (.int .i64 (0)) (.int .i64 (0)) (Nat.le_refl _) (by simp)).hb
  exact bodyPost_ret (v := .tuple #[.agg #[.int .i64 (0), .int .i64 (0), .int .i64 (0), .int .i64 (0), .int .i64 (0), .int .i64 (0)], .int .i64 3, .int .i64 12]) (by simp [results, Tryz.results165, go_sem, P0, P1, P2, P3, P4, P5]) rfl (⟨rfl, HB⟩)
theorem pad_is {l : List ByteArray} (h : l.length ≤ 3) : putAll [.string ⟨#[74, 97, 110, 117, 97, 114, 121]⟩, .string ⟨#[49]⟩, .string ⟨#[45]⟩] 0 (strs l) = [.string (l.getD 0 ⟨#[74, 97, 110, 117, 97, 114, 121]⟩), .string (l.getD 1 ⟨#[49]⟩), .string (l.getD 2 ⟨#[45]⟩)] := by
  match l, h with
  | [], _ => rfl
  | [_], _ => rfl
  | [_, _], _ => rfl
  | [_, _, _], _ => rfl
  | _ :: _ :: _ :: _ :: _, h => simp at h
theorem parseMP (A : Option Addr) (n c : Nat) (l : List ByteArray) (W : World) (hS : Ss W A n c l) (hz : ∀ (i : Nat) (h : i < l.length), i < 3 → l[i].size ≤ 1000) (T : Mom W) : Calls Tryz.prog 165 #[.slice A n c] W (RetSp W (parseRes l)) := by
  have hl := hS.len
  by_cases h3 : 3 < n
  · have e : parseRes l = (.zero, 3, 12) := by unfold parseRes; exact if_pos (by omega)
    rw [e]
    exact par_many A n c h3 W
  have hn : n ≤ 3 := by omega
  have hl3 : l.length ≤ 3 := by omega
  have hp := pad_is hl3
  rw [parse_pad l hl3]
  have sz : ∀ (i : Nat) (d : ByteArray), i < 3 → d.size ≤ 1000 → (l.getD i d).size ≤ 1000 := by
    intro i d hi hd
    by_cases g : i < l.length
    · rw [List.getD_eq_getElem?_getD, List.getElem?_eq_getElem g]; exact hz i g hi
    · rw [List.getD_eq_getElem?_getD, List.getElem?_eq_none (by omega)]; exact hd
  have sx := sz 0 ⟨#[74, 97, 110, 117, 97, 114, 121]⟩ (by decide) (by decide)
  have sy := sz 1 ⟨#[49]⟩ (by decide) (by decide)
  have sz := sz 2 ⟨#[45]⟩ (by decide) (by decide)
  generalize l.getD 0 ⟨#[74, 97, 110, 117, 97, 114, 121]⟩ = x at *
  generalize l.getD 1 ⟨#[49]⟩ = y at *
  generalize l.getD 2 ⟨#[45]⟩ = z at *
  have RD := fun (W : World) (T : Mom W) => readDayP y sy W T
  have MO := fun (W : World) (T : Mom W) => monP x (by unfold maxLen; omega) W T
  have CK := fun (W : World) => clockMP z (by omega) W
  unfold parse3
  by_cases m : monthN x = 0
  · rw [if_pos m]
    rw [decide_eq_false (by omega : ¬ 0 < (monthN x : Int))] at MO
    exact par_0 A n c l x y z hn hp _ _ _ _ _ _ (Lib.hid fun W T => (RD W T).mono fun e w' ⟨ki, wd, da, h1, _, h2⟩ => ⟨ki, wd, da, h1, Lib.hid trivial, h2⟩) (Lib.hid MO) (Lib.hid CK) rfl W hS T
  rw [if_neg m]
  rw [decide_eq_true (by omega : 0 < (monthN x : Int))] at MO
  by_cases d : (dTup y).2.2.2 = false
  · rw [if_pos d]
    exact par_1 A n c l x y z hn hp _ _ _ _ _ (Lib.hid fun W T => (RD W T).mono fun e w' ⟨ki, wd, da, h1, _, h2⟩ => ⟨ki, wd, da, by rw [h1, d], Lib.hid trivial, h2⟩) (Lib.hid MO) (Lib.hid CK) rfl W hS T
  rw [if_neg d]
  have d : (dTup y).2.2.2 = true := by simpa using d
  cases k : clockRes z with
  | none =>
    rw [k] at CK
    exact par_2 A n c l x y z hn hp _ _ _ 6 (Lib.hid fun W T => (RD W T).mono fun e w' ⟨ki, wd, da, h1, _, h2⟩ => ⟨ki, wd, da, by rw [h1, d], Lib.hid trivial, h2⟩) (Lib.hid MO) (Lib.hid CK) rfl W hS T
  | some r =>
    rw [k] at CK
    exact par_yes A n c l x y z hn hp _ _ _ 0 _ _ _ (Lib.hid fun W T => (RD W T).mono fun e w' ⟨ki, wd, da, h1, h3, h2⟩ => ⟨ki, wd, da, by rw [h1, d], Lib.hid (h3 d), h2⟩) (Lib.hid MO) (Lib.hid CK) rfl W hS T
end Go.Proofs.YtnkmlfbnfndfpaaGreatDoor
