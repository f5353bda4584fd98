import Derived.Shelf.Small.Wraps
import Derived.Shelf.Strconv.Itoa0
import Derived.Shelf.Strconv.Itoa1
import Derived.Shelf.LaysM
import Derived.Shelf.Strconv.Itoa3
import Derived.Shelf.Strings.Search1
import Derived.Shelf.Strings.Search2
import Derived.Shelf.Strings.Search3
import Derived.Shelf.Strings.Cut
import Derived.Shelf.Strings.Prefix
import Derived.Test.YtnkmlfbnfndfpaaGreatDoorProg
import Derived.Test.YtnkmlfbnfndfpaaGreatDoorXGu
import Derived.Test.YtnkmlfbnfndfpaaGreatDoorXGc
import Derived.BigQuiet
import Derived.Lib.IndexLaws
import Derived.Lib.IndexMore
set_option maxRecDepth 100000
set_option maxHeartbeats 64000000
namespace Go.Proofs.YtnkmlfbnfndfpaaGreatDoor
open Go.Shelf Go.RowKit
def ylays103_ren : Go.Shelf.Ren := ⟨fun | 103 => 178 | 210 => 192 | 206 => 157 | n => n, fun | 9 => 9 | 4 => 4 | 24 => 191 | 3 => 3 | n => n, fun | n => n⟩
theorem ylays103 : Go.Proofs.Lays.n103 Tryz.prog ylays103_ren := {
  mixed := by kernel_rfl
  f103 := Tryz.func178.trans (congrArg some (by kernel_rfl))
  f206 := Tryz.func157.trans (congrArg some (by kernel_rfl))
  f210 := Tryz.func192.trans (congrArg some (by kernel_rfl))
  t3 := Tryz.underlying3
  a3 := Tryz.isAgg3
  z3 := Tryz.sizeOf3
  v3 := Tryz.zeroValue3
  t4 := Tryz.underlying4
  a4 := Tryz.isAgg4
  z4 := Tryz.sizeOf4
  v4 := Tryz.zeroValue4
  t9 := Tryz.underlying9
  a9 := Tryz.isAgg9
  z9 := Tryz.sizeOf9
  v9 := Tryz.zeroValue9
  t24 := Tryz.underlying191
  a24 := Tryz.isAgg191
  z24 := Tryz.sizeOf191
  v24 := Tryz.zeroValue191 }
open Go.RowKit in
theorem ystrings_CutPrefix (s p : ByteArray) (w : World) :
    Calls Tryz.prog 178 #[.string s, .string p] w fun e w' => e = .returned (.tuple #[.string ⟨(Lib.trimPrefix s.data.toList p.data.toList).toArray⟩, .bool (Lib.hasPrefix s.data.toList p.data.toList)]) ∧ w' = w := Any.strings_CutPrefix ylays103 s p w
def ylays283_ren : Go.Shelf.Ren := ⟨fun | 283 => 173 | n => n, fun | 3 => 3 | 9 => 9 | 4 => 4 | n => n, fun | n => n⟩
theorem ylays283 : Go.Proofs.Lays.n283 Tryz.prog ylays283_ren := {
  mixed := by kernel_rfl
  f283 := Tryz.func173.trans (congrArg some (by kernel_rfl))
  t3 := Tryz.underlying3
  a3 := Tryz.isAgg3
  z3 := Tryz.sizeOf3
  v3 := Tryz.zeroValue3
  t4 := Tryz.underlying4
  a4 := Tryz.isAgg4
  z4 := Tryz.sizeOf4
  v4 := Tryz.zeroValue4
  t9 := Tryz.underlying9
  a9 := Tryz.isAgg9
  z9 := Tryz.sizeOf9
  v9 := Tryz.zeroValue9 }
open Go.Lib in
theorem yinternal_strconv_small (i : Nat) (h : i < 100) (w : World) :
    Calls Tryz.prog 173 #[.int .i64 i] w fun e w' => e = .returned (.string ⟨(Lib.decDigits i).toArray⟩) ∧ w' = w := Any.internal_strconv_small ylays283 i h w
def ylaysM284_ren : Go.Shelf.Ren := ⟨fun | 284 => 174 | 129 => 188 | 317 => 187 | 318 => 189 | n => n, fun | 53 => 145 | 3 => 3 | 212 => 202 | 0 => 0 | 4 => 4 | 46 => 169 | 5 => 5 | 9 => 9 | n => n, fun | 17 => 6 | n => n⟩
theorem ylaysM284 : Go.Proofs.LaysM.n284 Tryz.prog ylaysM284_ren := {
  mixed := by kernel_rfl
  f129 := Tryz.func188.trans (congrArg some (by kernel_rfl))
  f284 := Tryz.func174.trans (congrArg some (by kernel_rfl))
  f317 := Tryz.func187.trans (congrArg some (by kernel_rfl))
  f318 := Tryz.func189.trans (congrArg some (by kernel_rfl))
  t0 := Tryz.underlying0
  a0 := Tryz.isAgg0
  z0 := Tryz.sizeOf0
  v0 := Tryz.zeroValue0
  t3 := Tryz.underlying3
  a3 := Tryz.isAgg3
  z3 := Tryz.sizeOf3
  v3 := Tryz.zeroValue3
  t4 := Tryz.underlying4
  a4 := Tryz.isAgg4
  z4 := Tryz.sizeOf4
  v4 := Tryz.zeroValue4
  t5 := Tryz.underlying5
  a5 := Tryz.isAgg5
  z5 := Tryz.sizeOf5
  v5 := Tryz.zeroValue5
  t9 := Tryz.underlying9
  a9 := Tryz.isAgg9
  z9 := Tryz.sizeOf9
  v9 := Tryz.zeroValue9
  t46 := Tryz.underlying169
  a46 := Tryz.isAgg169
  z46 := Tryz.sizeOf169
  v46 := Tryz.zeroValue169
  t53 := Tryz.underlying145
  a53 := Tryz.isAgg145
  z53 := Tryz.sizeOf145
  v53 := Tryz.zeroValue145
  t212 := Tryz.underlying202
  a212 := Tryz.isAgg202
  z212 := Tryz.sizeOf202
  v212 := Tryz.zeroValue202
  g17 := by kernel_rfl
  i0 := by kernel_rfl
  i3 := by kernel_rfl
  i4 := by kernel_rfl
  i5 := by kernel_rfl
  i9 := by kernel_rfl
  i46 := by kernel_rfl
  i53 := by kernel_rfl
  i212 := by kernel_rfl
  m17 := by kernel_rfl }
open Go.Lib in
theorem yinternal_strconv_numDigits (u : Nat) (h1 : 1 ≤ u) (h2 : u < 18446744073709551616) (w : World) (htab : Lib.TabIs Tryz.prog w "internal/strconv.uint64pow10" .u64 Lib.pow10Tab) :
    Calls Tryz.prog 174 #[.int .u64 u] w fun e w' => e = .returned (.int .i64 (Lib.nDigits u)) ∧ w' = w := Any.internal_strconv_numDigits ylaysM284 u h1 h2 w htab
def ylays285_ren : Go.Shelf.Ren := ⟨fun | 285 => 175 | n => n, fun | 37 => 86 | 53 => 145 | 3 => 3 | 4 => 4 | 51 => 188 | 9 => 9 | 5 => 5 | 0 => 0 | n => n, fun | n => n⟩
theorem ylays285 : Go.Proofs.Lays.n285 Tryz.prog ylays285_ren := {
  mixed := by kernel_rfl
  f285 := Tryz.func175.trans (congrArg some (by kernel_rfl))
  t0 := Tryz.underlying0
  a0 := Tryz.isAgg0
  z0 := Tryz.sizeOf0
  v0 := Tryz.zeroValue0
  t3 := Tryz.underlying3
  a3 := Tryz.isAgg3
  z3 := Tryz.sizeOf3
  v3 := Tryz.zeroValue3
  t4 := Tryz.underlying4
  a4 := Tryz.isAgg4
  z4 := Tryz.sizeOf4
  v4 := Tryz.zeroValue4
  t5 := Tryz.underlying5
  a5 := Tryz.isAgg5
  z5 := Tryz.sizeOf5
  v5 := Tryz.zeroValue5
  t9 := Tryz.underlying9
  a9 := Tryz.isAgg9
  z9 := Tryz.sizeOf9
  v9 := Tryz.zeroValue9
  t37 := Tryz.underlying86
  a37 := Tryz.isAgg86
  z37 := Tryz.sizeOf86
  v37 := Tryz.zeroValue86
  t51 := Tryz.underlying188
  a51 := Tryz.isAgg188
  z51 := Tryz.sizeOf188
  v51 := Tryz.zeroValue188
  t53 := Tryz.underlying145
  a53 := Tryz.isAgg145
  z53 := Tryz.sizeOf145
  v53 := Tryz.zeroValue145 }
open Go.RowKit Go.Sort Go.Lib in
theorem yinternal_strconv_formatBase10 (blk off cap : Nat) (u : Nat) (d : Array UInt8) (w : World) (hH : Holds (fun (b : UInt8) => Value.int .u8 (b.toNat : Int)) w blk off d) (hu : u < 10 ^ d.size) (hu64 : u < 18446744073709551616) (hsz : d.size < 4611686018427387904) :
    Calls Tryz.prog 175 #[.slice (some ⟨blk, off, none⟩) d.size cap, .int .u64 u] w fun e w' =>
      e = .returned (.tuple #[]) ∧ ∃ (n v' : Nat) (dk : Array UInt8), w' = (putRow (fun (b : UInt8) => Value.int .u8 (b.toNat : Int)) w blk off dk).drewN n ∧ FmtInv d.size u 0 v' dk := Any.internal_strconv_formatBase10 ylays285 blk off cap u d w hH hu hu64 hsz
def ylays171_ren : Go.Shelf.Ren := ⟨fun | 171 => 85 | 243 => 121 | 246 => 153 | 283 => 173 | 284 => 174 | 285 => 175 | 286 => 176 | 129 => 188 | 317 => 187 | 318 => 189 | 319 => 190 | 320 => 191 | 337 => 205 | 338 => 206 | n => n, fun | 3 => 3 | 9 => 9 | 2 => 2 | 4 => 4 | 171 => 182 | 0 => 0 | 53 => 145 | 37 => 86 | 5 => 5 | 173 => 185 | 212 => 202 | 51 => 188 | 20 => 20 | 213 => 203 | 46 => 169 | 232 => 218 | 233 => 219 | n => n, fun | 17 => 6 | 18 => 9 | 19 => 10 | n => n⟩
theorem ylays171 : Go.Proofs.Lays.n171 Tryz.prog ylays171_ren := {
  mixed := by kernel_rfl
  f129 := Tryz.func188.trans (congrArg some (by kernel_rfl))
  f171 := Tryz.func85.trans (congrArg some (by kernel_rfl))
  f243 := Tryz.func121.trans (congrArg some (by kernel_rfl))
  f246 := Tryz.func153.trans (congrArg some (by kernel_rfl))
  f283 := Tryz.func173.trans (congrArg some (by kernel_rfl))
  f284 := Tryz.func174.trans (congrArg some (by kernel_rfl))
  f285 := Tryz.func175.trans (congrArg some (by kernel_rfl))
  f286 := Tryz.func176.trans (congrArg some (by kernel_rfl))
  f317 := Tryz.func187.trans (congrArg some (by kernel_rfl))
  f318 := Tryz.func189.trans (congrArg some (by kernel_rfl))
  f319 := Tryz.func190.trans (congrArg some (by kernel_rfl))
  f320 := Tryz.func191.trans (congrArg some (by kernel_rfl))
  f337 := Tryz.func205.trans (congrArg some (by kernel_rfl))
  f338 := Tryz.func206.trans (congrArg some (by kernel_rfl))
  t0 := Tryz.underlying0
  a0 := Tryz.isAgg0
  z0 := Tryz.sizeOf0
  v0 := Tryz.zeroValue0
  t2 := Tryz.underlying2
  a2 := Tryz.isAgg2
  z2 := Tryz.sizeOf2
  v2 := Tryz.zeroValue2
  t3 := Tryz.underlying3
  a3 := Tryz.isAgg3
  z3 := Tryz.sizeOf3
  v3 := Tryz.zeroValue3
  t4 := Tryz.underlying4
  a4 := Tryz.isAgg4
  z4 := Tryz.sizeOf4
  v4 := Tryz.zeroValue4
  t5 := Tryz.underlying5
  a5 := Tryz.isAgg5
  z5 := Tryz.sizeOf5
  v5 := Tryz.zeroValue5
  t9 := Tryz.underlying9
  a9 := Tryz.isAgg9
  z9 := Tryz.sizeOf9
  v9 := Tryz.zeroValue9
  t20 := Tryz.underlying20
  a20 := Tryz.isAgg20
  z20 := Tryz.sizeOf20
  v20 := Tryz.zeroValue20
  t37 := Tryz.underlying86
  a37 := Tryz.isAgg86
  z37 := Tryz.sizeOf86
  v37 := Tryz.zeroValue86
  t46 := Tryz.underlying169
  a46 := Tryz.isAgg169
  z46 := Tryz.sizeOf169
  v46 := Tryz.zeroValue169
  t51 := Tryz.underlying188
  a51 := Tryz.isAgg188
  z51 := Tryz.sizeOf188
  v51 := Tryz.zeroValue188
  t53 := Tryz.underlying145
  a53 := Tryz.isAgg145
  z53 := Tryz.sizeOf145
  v53 := Tryz.zeroValue145
  t171 := Tryz.underlying182
  a171 := Tryz.isAgg182
  z171 := Tryz.sizeOf182
  v171 := Tryz.zeroValue182
  t173 := Tryz.underlying185
  a173 := Tryz.isAgg185
  z173 := Tryz.sizeOf185
  v173 := Tryz.zeroValue185
  t212 := Tryz.underlying202
  a212 := Tryz.isAgg202
  z212 := Tryz.sizeOf202
  v212 := Tryz.zeroValue202
  t213 := Tryz.underlying203
  a213 := Tryz.isAgg203
  z213 := Tryz.sizeOf203
  t232 := Tryz.underlying218
  a232 := Tryz.isAgg218
  z232 := Tryz.sizeOf218
  v232 := Tryz.zeroValue218
  t233 := Tryz.underlying219
  a233 := Tryz.isAgg219
  z233 := Tryz.sizeOf219
  v233 := Tryz.zeroValue219
  g17 := by kernel_rfl
  g18 := by kernel_rfl
  g19 := by kernel_rfl }
open Go.RowKit Go.Sort Go.Lib in
theorem ystrconv_Itoa_small (i : Nat) (hi : i < 100) (w : World) :
    Calls Tryz.prog 85 #[.int .i64 i] w fun e w' => e = .returned (.string ⟨(Lib.decDigits i).toArray⟩) ∧ w' = w := Any.strconv_Itoa_small ylays171 i hi w
def ylays143_ren : Go.Shelf.Ren := ⟨fun | 143 => 102 | 219 => 129 | 217 => 99 | 225 => 158 | 224 => 159 | 267 => 160 | 266 => 127 | 314 => 177 | n => n, fun | 9 => 9 | 3 => 3 | 4 => 4 | 5 => 5 | 46 => 169 | 146 => 189 | 51 => 188 | n => n, fun | 1 => 2 | n => n⟩
theorem ylays143 : Go.Proofs.Lays.n143 Tryz.prog ylays143_ren := {
  mixed := by kernel_rfl
  f143 := Tryz.func102.trans (congrArg some (by kernel_rfl))
  f217 := Tryz.func99.trans (congrArg some (by kernel_rfl))
  f219 := Tryz.func129.trans (congrArg some (by kernel_rfl))
  f224 := Tryz.func159.trans (congrArg some (by kernel_rfl))
  f225 := Tryz.func158.trans (congrArg some (by kernel_rfl))
  f266 := Tryz.func127.trans (congrArg some (by kernel_rfl))
  f267 := Tryz.func160.trans (congrArg some (by kernel_rfl))
  f314 := Tryz.func177.trans (congrArg some (by kernel_rfl))
  t3 := Tryz.underlying3
  a3 := Tryz.isAgg3
  z3 := Tryz.sizeOf3
  v3 := Tryz.zeroValue3
  t4 := Tryz.underlying4
  a4 := Tryz.isAgg4
  z4 := Tryz.sizeOf4
  v4 := Tryz.zeroValue4
  t5 := Tryz.underlying5
  a5 := Tryz.isAgg5
  z5 := Tryz.sizeOf5
  v5 := Tryz.zeroValue5
  t9 := Tryz.underlying9
  a9 := Tryz.isAgg9
  z9 := Tryz.sizeOf9
  v9 := Tryz.zeroValue9
  t46 := Tryz.underlying169
  a46 := Tryz.isAgg169
  z46 := Tryz.sizeOf169
  v46 := Tryz.zeroValue169
  t51 := Tryz.underlying188
  a51 := Tryz.isAgg188
  z51 := Tryz.sizeOf188
  v51 := Tryz.zeroValue188
  t146 := Tryz.underlying189
  a146 := Tryz.isAgg189
  z146 := Tryz.sizeOf189
  v146 := Tryz.zeroValue189
  g1 := by kernel_rfl }
open Go.RowKit Go.Lib in
theorem ystrings_Index_one (s : ByteArray) (c : UInt8) (w : World) :
    Calls Tryz.prog 102 #[.string s, .string ⟨#[c]⟩] w fun e w' => e = .returned (.int .i64 (Lib.indexByte s.data.toList c)) ∧ w' = w := Any.strings_Index_one ylays143 s c w
def ylays145_ren : Go.Shelf.Ren := ⟨fun | 145 => 104 | 220 => 130 | 219 => 129 | 217 => 99 | 225 => 158 | 224 => 159 | 267 => 160 | 266 => 127 | 314 => 177 | n => n, fun | 9 => 9 | 4 => 4 | 59 => 129 | 3 => 3 | 5 => 5 | 46 => 169 | 146 => 189 | 51 => 188 | n => n, fun | 1 => 2 | n => n⟩
theorem ylays145 : Go.Proofs.Lays.n145 Tryz.prog ylays145_ren := {
  mixed := by kernel_rfl
  f145 := Tryz.func104.trans (congrArg some (by kernel_rfl))
  f217 := Tryz.func99.trans (congrArg some (by kernel_rfl))
  f219 := Tryz.func129.trans (congrArg some (by kernel_rfl))
  f220 := Tryz.func130.trans (congrArg some (by kernel_rfl))
  f224 := Tryz.func159.trans (congrArg some (by kernel_rfl))
  f225 := Tryz.func158.trans (congrArg some (by kernel_rfl))
  f266 := Tryz.func127.trans (congrArg some (by kernel_rfl))
  f267 := Tryz.func160.trans (congrArg some (by kernel_rfl))
  f314 := Tryz.func177.trans (congrArg some (by kernel_rfl))
  t3 := Tryz.underlying3
  a3 := Tryz.isAgg3
  z3 := Tryz.sizeOf3
  v3 := Tryz.zeroValue3
  t4 := Tryz.underlying4
  a4 := Tryz.isAgg4
  z4 := Tryz.sizeOf4
  v4 := Tryz.zeroValue4
  t5 := Tryz.underlying5
  a5 := Tryz.isAgg5
  z5 := Tryz.sizeOf5
  v5 := Tryz.zeroValue5
  t9 := Tryz.underlying9
  a9 := Tryz.isAgg9
  z9 := Tryz.sizeOf9
  v9 := Tryz.zeroValue9
  t46 := Tryz.underlying169
  a46 := Tryz.isAgg169
  z46 := Tryz.sizeOf169
  v46 := Tryz.zeroValue169
  t51 := Tryz.underlying188
  a51 := Tryz.isAgg188
  z51 := Tryz.sizeOf188
  v51 := Tryz.zeroValue188
  t59 := Tryz.underlying129
  a59 := Tryz.isAgg129
  z59 := Tryz.sizeOf129
  v59 := Tryz.zeroValue129
  t146 := Tryz.underlying189
  a146 := Tryz.isAgg189
  z146 := Tryz.sizeOf189
  v146 := Tryz.zeroValue189
  g1 := by kernel_rfl }
open Go.RowKit Go.Lib in
theorem ystrings_Cut (s sep : ByteArray) (m : Int) (w : World) (hs : s.size < 4294967281) (hm : w.cell? ⟨2, 0, none⟩ = some (.int .i64 m)) :
    Calls Tryz.prog 104 #[.string s, .string sep] w fun e w' => e = .returned (.tuple #[.string ⟨(Lib.cut s.data.toList sep.data.toList).1.toArray⟩, .string ⟨(Lib.cut s.data.toList sep.data.toList).2.1.toArray⟩, .bool (Lib.cut s.data.toList sep.data.toList).2.2]) ∧ ∃ n, w' = w.drewN n := Any.strings_Cut ylays145 s sep m w hs hm
end Go.Proofs.YtnkmlfbnfndfpaaGreatDoor
namespace Go.Proofs.YtnkmlfbnfndfpaaGreatDoor
open Go.RowKit
def nmN (s : ByteArray) (a b : Int) : Int := if numRes s a b < 0 then 0 else numRes s a b
def nmB (s : ByteArray) (a b g : Int) : Bool := decide (0 ≤ numRes s a b) && decide (numRes s a b ≤ g)
theorem nm_no {s : ByteArray} {a b g : Int} (h : numRes s a b = -1) : nmN s a b = 0 ∧ nmB s a b g = false := by
  unfold nmN nmB
  rw [h]
  exact ⟨rfl, rfl⟩
theorem nm_yes {s : ByteArray} {a b g : Int} {n : Nat} (h : numRes s a b = n) : nmN s a b = n ∧ nmB s a b g = decide ((n : Int) ≤ g) := by
  unfold nmN nmB
  rw [h, if_neg (by omega), decide_eq_true (by omega : (0 : Int) ≤ n)]
  exact ⟨rfl, rfl⟩
def RetNB (w : World) (n : Int) (b : Bool) (e : Ending) (w' : World) : Prop := e = .returned (.tuple #[.int .i64 n, .bool b]) ∧ w = w'
theorem numberP (s : ByteArray) (a b g : Int) (_a0 : 0 ≤ a) (b3 : b ≤ 3) (hs : s.size ≤ maxLen) (w : World) : Calls Tryz.prog 180 #[.string s, .int .i64 a, .int .i64 b, .int .i64 g] w (RetNB w (nmN s a b) (nmB s a b g)) := by
  have hs : s.size ≤ 9223372036854775807 := hs
  by_cases h1 : (s.size : Int) < a
  · have d1 : decide ((s.size : Int) < a) = true := decide_eq_true h1
    have E := Lib.hid (nm_no (g := g) (show numRes s a b = -1 by unfold numRes; rw [if_pos (.inl h1)]))
    go_enter Tryz.func180, Tryz.ntmps180
    go_wp2
    go_ret2
    exact ⟨by rw [E.out.1, E.out.2]; rfl, rfl⟩
  have d1 : decide ((s.size : Int) < a) = false := decide_eq_false h1
  by_cases h2 : b < (s.size : Int)
  · have d2 : decide (b < (s.size : Int)) = true := decide_eq_true h2
    have E := Lib.hid (nm_no (g := g) (show numRes s a b = -1 by unfold numRes; rw [if_pos (.inr h2)]))
    go_enter Tryz.func180, Tryz.ntmps180
    go_wp2
    go_ret2
    exact ⟨by rw [E.out.1, E.out.2]; rfl, rfl⟩
  have d2 : decide (b < (s.size : Int)) = false := decide_eq_false h2
  have E := Lib.hid (show numRes s a b = if digB s s.size = true then (digN s s.size : Int) else -1 by unfold numRes; rw [if_neg (by omega)])
  have s3 : s.size ≤ 3 := by omega
  clear h1 h2
  go_enter Tryz.func180, Tryz.ntmps180
  go_wp2_with fail
  clear d1 d2
  go_loop [10, 24] (fun v7 v8 => ∃ k : Nat, k ≤ s.size ∧ v8 = .int .i64 k ∧ v7 = .int .i64 (digN s k) ∧ digB s k = true) (fun _ v => s.size - (intOf v).toNat)
  case atStart => exact ⟨0, by omega, rfl, rfl, rfl⟩
  case round =>
    obtain ⟨k, hk, rfl, rfl, hd⟩ := hrel
    have HD := Lib.hid hd
    have lt := digN_lt k hd
    clear hd
    by_cases h1 : k < s.size
    · have lt2 : digN s k < 1000 := Nat.lt_of_lt_of_le lt (by
        have : k = 0 ∨ k = 1 ∨ k = 2 := by omega
        rcases this with rfl | rfl | rfl <;> decide)
      clear lt
      have DB := Lib.hid (digB_succ h1)
      have DN := Lib.hid (digN_succ h1)
      have a1 : (s[k].toNat : Int) < 256 := by have := s[k].toNat_lt; omega
      have OFF := Lib.hid (fun (h : digB s (k + 1) = false) => show digB s s.size = false by
        have := digB_off (s.size - (k + 1)) h
        rwa [show k + 1 + (s.size - (k + 1)) = s.size by omega] at this)
      by_cases q1 : s[k].toNat < 48
      · have f1 : decide ((s[k].toNat : Int) < 48) = true := decide_eq_true (by omega)
        have HE := Lib.hid (OFF.out (by rw [DB.out, HD.out, Bool.true_and]; exact decide_eq_false (by omega)))
        have HF := Lib.hid (nm_no (g := g) (show numRes s a b = -1 by rw [E.out, HE.out]; rfl))
        clear DB DN OFF HD q1
        go_wp2
        go_ret2
        exact ⟨by rw [HF.out.1, HF.out.2]; rfl, rfl⟩
      have f1 : decide ((s[k].toNat : Int) < 48) = false := decide_eq_false (by omega)
      by_cases q2 : 57 < s[k].toNat
      · have f2 : decide ((57 : Int) < (s[k].toNat : Int)) = true := decide_eq_true (by omega)
        have HE := Lib.hid (OFF.out (by rw [DB.out, HD.out, Bool.true_and]; exact decide_eq_false (by omega)))
        have HF := Lib.hid (nm_no (g := g) (show numRes s a b = -1 by rw [E.out, HE.out]; rfl))
        clear DB DN OFF HD q1 q2
        go_wp2
        go_ret2
        exact ⟨by rw [HF.out.1, HF.out.2]; rfl, rfl⟩
      have f2 : decide ((57 : Int) < (s[k].toNat : Int)) = false := decide_eq_false (by omega)
      have HE := Lib.hid (show digB s (k + 1) = true by rw [DB.out, HD.out, Bool.true_and]; exact decide_eq_true (by omega))
      have HV := Lib.hid (show (digN s (k + 1) : Int) = (digN s k : Int) * 10 + ((s[k].toNat : Int) - 48) by rw [DN.out]; omega)
      have g1 : 48 ≤ (s[k].toNat : Int) := by omega
      have g2 : (s[k].toNat : Int) ≤ 57 := by omega
      clear DB DN OFF HD q1 q2
      generalize digN s k = t at *
      go_wp2
      go_round
      case rel => exact ⟨k + 1, by omega, by go_num, by rw [HV.out], HE.out⟩
      case measure => simp [intOf]; omega
    · have e : k = s.size := by omega
      subst e
      clear lt
      have HF := Lib.hid (nm_yes (g := g) (show numRes s a b = (digN s s.size : Nat) by rw [E.out, HD.out]; rfl))
      generalize digN s s.size = t at *
      go_wp2
      go_ret2
      exact ⟨by rw [HF.out.1, HF.out.2]; rfl, rfl⟩
theorem dayNumP (s : ByteArray) (hs : s.size ≤ maxLen) (w : World) : Calls Tryz.prog 202 #[.string s] w (RetNB w (nmN s 1 2) (decide (0 < dayRes s))) := by
  have NP := Lib.hid (numberP s 1 2 31 (by decide) (by decide) hs)
  have r0 := Lib.hid (show nmN s 1 2 = 0 → dayRes s = 0 by
    unfold nmN dayRes; intro h; split at h <;> (split <;> omega))
  have r1 := Lib.hid (show nmB s 1 2 31 = false → dayRes s = 0 by
    unfold nmB dayRes; intro h
    rw [Bool.and_eq_false_iff, decide_eq_false_iff_not, decide_eq_false_iff_not] at h
    rw [if_pos (by omega)])
  have r2 := Lib.hid (show nmB s 1 2 31 = true → 0 < nmN s 1 2 → 0 < dayRes s by
    unfold nmB nmN dayRes; intro h g
    rw [Bool.and_eq_true, decide_eq_true_iff, decide_eq_true_iff] at h
    rw [if_neg (by omega)] at g
    rw [if_neg (by omega)]
    exact g)
  have r3 := Lib.hid (show 0 ≤ nmN s 1 2 by unfold nmN; split <;> omega)
  generalize nmN s 1 2 = n at *
  cases hb : nmB s 1 2 31 with
  | false =>
    rw [hb] at NP
    have F := Lib.hid (show decide (0 < dayRes s) = false from decide_eq_false (by rw [r1.out hb]; decide))
    clear r0 r1 r2 r3 hb
    go_enter Tryz.func202, Tryz.ntmps202
    go_wp2_with (go_at_call 180; refine (NP.out _).mono ?_; rintro e w' ⟨rfl, rfl⟩)
    go_ret2
    exact ⟨by rw [F.out]; rfl, rfl⟩
  | true =>
    rw [hb] at NP
    have F := Lib.hid (show decide (0 < dayRes s) = decide (0 < n) by
      by_cases h : 0 < n
      · rw [decide_eq_true h, decide_eq_true (r2.out hb h)]
      · rw [decide_eq_false h, decide_eq_false (by rw [r0.out (by have := r3.out; omega)]; decide)])
    clear r0 r1 r2 r3 hb
    go_enter Tryz.func202, Tryz.ntmps202
    go_wp2_with (go_at_call 180; refine (NP.out _).mono ?_; rintro e w' ⟨rfl, rfl⟩)
    go_ret2
    exact ⟨by rw [F.out]; rfl, rfl⟩
def smN (c : Nat) : Nat := if 65 ≤ c ∧ c ≤ 90 then c + 32 else c
theorem smallP (c : Nat) (h : c < 256) (w : World) : Calls Tryz.prog 210 #[.int .u8 c] w (fun e w' => e = .returned (.int .u8 (smN c)) ∧ w = w') := by
  by_cases h1 : 65 ≤ c
  · by_cases h2 : c ≤ 90
    · have E := Lib.hid (show (smN c : Int) = (c : Int) - 65 + 97 by unfold smN; rw [if_pos ⟨h1, h2⟩]; omega)
      have d1 : decide ((65 : Int) ≤ c) = true := decide_eq_true (by omega)
      have d2 : decide ((c : Int) ≤ 90) = true := decide_eq_true (by omega)
      have k1 : IntKind.u8.wrap ((c : Int) - 65) = (c : Int) - 65 := by show ((c : Int) - 65) % 256 = _; omega
      have k2 : IntKind.u8.wrap ((c : Int) - 65 + 97) = (c : Int) - 65 + 97 := by show ((c : Int) - 65 + 97) % 256 = _; omega
      go_enter Tryz.func210, Tryz.ntmps210
      go_wp2
      go_ret
      exact ⟨by rw [E.out]; rfl, rfl⟩
    · have E := Lib.hid (show smN c = c by unfold smN; rw [if_neg (by omega)])
      have d1 : decide ((65 : Int) ≤ c) = true := decide_eq_true (by omega)
      have d2 : decide ((c : Int) ≤ 90) = false := decide_eq_false (by omega)
      go_enter Tryz.func210, Tryz.ntmps210
      go_wp2
      go_ret
      exact ⟨by rw [E.out]; rfl, rfl⟩
  · have E := Lib.hid (show smN c = c by unfold smN; rw [if_neg (by omega)])
    have d1 : decide ((65 : Int) ≤ c) = false := decide_eq_false (by omega)
    go_enter Tryz.func210, Tryz.ntmps210
    go_wp2
    go_ret
    exact ⟨by rw [E.out]; rfl, rfl⟩
theorem smallQ (c : Nat) (h : c < 256) (w : World) : Calls Tryz.prog 210 #[.int .u8 c] w (fun e w' => e = .returned (.int .u8 (smN c)) ∧ w' = w) := (smallP c h w).mono fun _ _ ⟨h1, h2⟩ => ⟨h1, h2.symm⟩
def capT (name low : ByteArray) : Prop := name.size = low.size ∧ ∀ (j : Nat) (h : j < name.size) (g : j < low.size), smN name[j].toNat = low[j].toNat
theorem sm_eq {a b : Nat} (hb : 97 ≤ b ∧ b ≤ 122) : smN a = b ↔ a = b ∨ a + 32 = b := by
  unfold smN
  split <;> omega
theorem beginsP (s name low : ByteArray) (hs : s.size ≤ maxLen) (hl : lowT low) (hc : capT name low) (w : World) : Calls Tryz.prog 203 #[.string s, .string name] w (RetV w (.bool (isName s low))) := by
  have hs : s.size ≤ 9223372036854775807 := hs
  have l20 := hl.1
  have ez := hc.1
  by_cases h3 : s.size < 3
  · have e : isName s low = false := by unfold isName; rw [decide_eq_false (by omega : ¬ 3 ≤ s.size)]; rfl
    have d1 : decide ((s.size : Int) < 3) = true := decide_eq_true (by omega)
    rw [e]
    clear e hl hc
    go_enter Tryz.func203, Tryz.ntmps203
    go_wp2
    go_ret
    exact ⟨rfl, Below.refl _ _⟩
  have d1 : decide ((s.size : Int) < 3) = false := decide_eq_false (by omega)
  by_cases hw : name.size < s.size
  · have e : isName s low = false := by unfold isName; rw [decide_eq_false (by omega : ¬ s.size ≤ low.size), Bool.and_false]; rfl
    have d2 : decide ((name.size : Int) < s.size) = true := decide_eq_true (by omega)
    rw [e]
    clear e hl hc
    go_enter Tryz.func203, Tryz.ntmps203
    go_wp2
    go_ret
    exact ⟨rfl, Below.refl _ _⟩
  have d2 : decide ((name.size : Int) < s.size) = false := decide_eq_false (by omega)
  have E := Lib.hid (show isName s low = nameB s low s.size by unfold isName; rw [decide_eq_true (by omega : 3 ≤ s.size), decide_eq_true (by omega : s.size ≤ low.size)]; rfl)
  have LO := Lib.hid hl.2
  have CA := Lib.hid hc.2
  clear hl hc
  go_enter Tryz.func203, Tryz.ntmps203
  go_wp2_with fail
  clear d1 d2
  go_loopw [18] (fun v wr => ∃ k : Nat, k ≤ s.size ∧ v = .int .i64 k ∧ nameB s low k = true ∧ Below w.heap.size w wr) (fun v _ => s.size - (intOf v).toNat)
  case atStart => exact ⟨0, by omega, rfl, rfl, Below.refl _ _⟩
  case round =>
    obtain ⟨k, hk, rfl, hn, hbel⟩ := hrel
    have HN := Lib.hid hn
    clear hn
    by_cases h1 : k < s.size
    · have h2 : k < low.size := by omega
      have h4 : k < name.size := by omega
      have NS := Lib.hid (name_succ h1 h2)
      have B := Lib.hid (LO.out k h2)
      have CE := Lib.hid (CA.out k h4 h2)
      have a1 : s[k].toNat < 256 := s[k].toNat_lt
      have a2 : name[k].toNat < 256 := name[k].toNat_lt
      have OFF := Lib.hid (fun (h : nameB s low (k + 1) = false) => show nameB s low s.size = false by
        have := name_off (s.size - (k + 1)) h
        rwa [show k + 1 + (s.size - (k + 1)) = s.size by omega] at this)
      have SA := Lib.hid (fun (W : World) (n : Nat) => Calls.quiet_of_same (smallQ s[k].toNat a1 (W.drewN n)))
      have SB := Lib.hid (fun (W : World) (n : Nat) => Calls.quiet_of_same (smallQ name[k].toNat a2 (W.drewN n)))
      rw [HN.out, Bool.true_and] at NS
      clear LO HN CA
      by_cases q1 : smN s[k].toNat = smN name[k].toNat
      · have f1 : ((smN s[k].toNat : Int) != (smN name[k].toNat : Int)) = false := by rw [bne_eq_false_iff_eq]; omega
        have f3 : (!(smN s[k].toNat : Int) == (smN name[k].toNat : Int)) = false := f1
        have HE := Lib.hid (show nameB s low (k + 1) = true by rw [NS.out]; exact decide_eq_true ((sm_eq B.out).1 (q1.trans CE.out)))
        clear NS OFF q1 B CE
        generalize hx : smN s[k].toNat = x at *
        generalize hy : smN name[k].toNat = y at *
        clear hx hy
        go_wp2_with fail
        go_quiet ((go_at_call 210; first | (with_reducible exact SA.out _ _) | (with_reducible exact SB.out _ _)))
        go_wp2
        go_roundw
        case rel => exact ⟨k + 1, by omega, by go_num, HE.out, below_drewN hbel _⟩
        case measure => simp [intOf]; omega
      · have f1 : ((smN s[k].toNat : Int) != (smN name[k].toNat : Int)) = true := by rw [bne_iff_ne]; omega
        have f3 : (!(smN s[k].toNat : Int) == (smN name[k].toNat : Int)) = true := f1
        have HE := Lib.hid (OFF.out (by rw [NS.out]; exact decide_eq_false (fun c => q1 (((sm_eq B.out).2 c).trans CE.out.symm))))
        clear NS OFF q1 B CE
        generalize hx : smN s[k].toNat = x at *
        generalize hy : smN name[k].toNat = y at *
        clear hx hy
        go_wp2_with fail
        go_quiet ((go_at_call 210; first | (with_reducible exact SA.out _ _) | (with_reducible exact SB.out _ _)))
        go_wp2
        go_ret
        exact ⟨by rw [E.out, HE.out]; rfl, below_drewN hbel _⟩
    · have e : k = s.size := by omega
      subst e
      go_wp2
      go_ret
      exact ⟨by rw [E.out, HN.out]; rfl, hbel⟩
def colon (s : ByteArray) : Option Nat := if Lib.indexByte s.data.toList 58 = -1 then none else some (Lib.indexByte s.data.toList 58).toNat
theorem colon_get (r : ByteArray) (k : Nat) : r.data.toList[k]? = if h : k < r.size then some r[k] else none := by
  split
  · rename_i h
    rw [Array.getElem?_toList, Array.getElem?_eq_some_iff.2 ⟨h, rfl⟩]
    rfl
  · rename_i h
    rw [Array.getElem?_toList]
    exact Array.getElem?_eq_none (Nat.le_of_not_lt h)
theorem colon_none {s : ByteArray} (h : colon s = none) : Lib.indexByte s.data.toList 58 = -1 ∧ ∀ (j : Nat) (g : j < s.size), ¬ s[j].toNat = 58 := by
  unfold colon at h
  split at h
  · rename_i e
    refine ⟨e, fun j g c => ?_⟩
    have := Lib.indexByte_none e j
    rw [colon_get, dif_pos g] at this
    exact this (congrArg some (UInt8.toNat_inj.1 c))
  · cases h
theorem colon_some {s : ByteArray} {o : Nat} (h : colon s = some o) : Lib.indexByte s.data.toList 58 = (o : Int) ∧ ∃ _g : o < s.size, s[o].toNat = 58 ∧ ∀ (j : Nat) (f : j < s.size), j < o → ¬ s[j].toNat = 58 := by
  unfold colon at h
  have ge := Lib.indexByte_ge s.data.toList 58
  split at h
  · cases h
  · rename_i e
    have e1 : Lib.indexByte s.data.toList 58 = (o : Int) := by
      have := Option.some.inj h
      omega
    obtain ⟨h1, h2⟩ := Lib.indexByte_some e1
    have lt : o < s.size := by
      rw [colon_get] at h1
      split at h1
      · assumption
      · cases h1
    refine ⟨e1, lt, ?_, fun j f hj c => ?_⟩
    · rw [colon_get, dif_pos lt] at h1
      rw [Option.some.inj h1]
      rfl
    · refine h2 j hj ?_
      rw [colon_get, dif_pos f]
      exact congrArg some (UInt8.toNat_inj.1 c)
def spl2 (s : ByteArray) : List ByteArray := match colon s with
  | none => [s]
  | some o => [s.extract 0 o, s.extract (o + 1) s.size]
def spl3 (s : ByteArray) : List ByteArray := match colon s with
  | none => [s]
  | some o => s.extract 0 o :: spl2 (s.extract (o + 1) s.size)
theorem ext_step {s : ByteArray} {a k : Nat} (h : a ≤ k) : s.extract a k ++ s.extract k (k + 1) = s.extract a (k + 1) := by
  rw [ByteArray.extract_append_extract, Nat.min_eq_left h, Nat.max_eq_right (Nat.le_succ k)]
theorem parts_to {s : ByteArray} {a o : Nat} (ho : o < s.size) (e : s[o].toNat = 58) : ∀ (d k : Nat), o - k ≤ d → a ≤ k → k ≤ o → (∀ (j : Nat) (f : j < s.size), k ≤ j → j < o → ¬ s[j].toNat = 58) → partsOf s k (s.extract a k) = s.extract a o :: partsOf s (o + 1) ⟨#[]⟩ := by
  intro d
  induction d with
  | zero =>
    intro k hd ha hk _
    obtain rfl : k = o := by omega
    exact parts_cut ho e
  | succ d ih =>
    intro k hd ha hk hn
    by_cases hko : k = o
    · subst hko; exact parts_cut ho e
    · rw [parts_on (by omega) (hn k (by omega) (Nat.le_refl _) (by omega)), ext_step ha]
      exact ih (k + 1) (by omega) (by omega) (by omega) (fun j f h1 h2 => hn j f (by omega) h2)
theorem parts_all {s : ByteArray} {a : Nat} : ∀ (d k : Nat), s.size - k ≤ d → a ≤ k → k ≤ s.size → (∀ (j : Nat) (f : j < s.size), k ≤ j → ¬ s[j].toNat = 58) → partsOf s k (s.extract a k) = [s.extract a s.size] := by
  intro d
  induction d with
  | zero =>
    intro k hd ha hk _
    obtain rfl : k = s.size := by omega
    exact parts_end (Nat.lt_irrefl _)
  | succ d ih =>
    intro k hd ha hk hn
    by_cases hko : k < s.size
    · rw [parts_on hko (hn k hko (Nat.le_refl _)), ext_step ha]
      exact ih (k + 1) (by omega) (by omega) (by omega) (fun j f h1 => hn j f (by omega))
    · obtain rfl : k = s.size := by omega
      exact parts_end (Nat.lt_irrefl _)
theorem parts_sub {s : ByteArray} {b : Nat} (hb : b ≤ s.size) : ∀ (d k : Nat) (cur : ByteArray), s.size - b - k ≤ d → partsOf (s.extract b s.size) k cur = partsOf s (b + k) cur := by
  have sz : (s.extract b s.size).size = s.size - b := by simp
  intro d
  induction d with
  | zero => intro k cur h; rw [parts_end (by omega), parts_end (by omega)]
  | succ d ih =>
    intro k cur h
    by_cases hk : k < s.size - b
    · have g1 : k < (s.extract b s.size).size := by omega
      have g2 : b + k < s.size := by omega
      have ge : (s.extract b s.size)[k] = s[b + k] := ByteArray.getElem_extract g1
      by_cases e : s[b + k].toNat = 58
      · rw [parts_cut g1 (by rw [ge]; exact e), parts_cut g2 e, ih (k + 1) _ (by omega)]; rfl
      · rw [parts_on g1 (by rw [ge]; exact e), parts_on g2 e, ih (k + 1) _ (by omega), ByteArray.extract_extract, Nat.min_eq_left (by omega)]
        rfl
    · rw [parts_end (by omega), parts_end (by omega)]
theorem ext_nil (s : ByteArray) : s.extract 0 0 = ⟨#[]⟩ := by
  have h : (s.extract 0 0).size = 0 := by rw [ByteArray.size_extract]; omega
  generalize s.extract 0 0 = t at h
  obtain ⟨a⟩ := t
  have : a.size = 0 := h
  rw [Array.size_eq_zero_iff.1 this]
theorem ext_whole (s : ByteArray) : s.extract 0 s.size = s := by simp
theorem parts_no {s : ByteArray} (h : colon s = none) : partsOf s 0 ⟨#[]⟩ = [s] := by
  have := parts_all (s := s) (a := 0) s.size 0 (by omega) (Nat.le_refl _) (Nat.zero_le _) (fun j f _ => (colon_none h).2 j f)
  rw [ext_nil, ext_whole] at this
  exact this
theorem parts_yes {s : ByteArray} {o : Nat} (h : colon s = some o) : partsOf s 0 ⟨#[]⟩ = s.extract 0 o :: partsOf (s.extract (o + 1) s.size) 0 ⟨#[]⟩ := by
  obtain ⟨_, g, e, n⟩ := colon_some h
  have := parts_to (s := s) (a := 0) g e o 0 (by omega) (Nat.le_refl _) (Nat.zero_le _) (fun j f _ hj => n j f hj)
  rw [ext_nil] at this
  rw [this, parts_sub (by omega) s.size 0 _ (by omega)]
theorem num_colon {s : ByteArray} {o : Nat} (h : colon s = some o) (a b : Int) : numRes s a b = -1 := by
  obtain ⟨_, g, e, _⟩ := colon_some h
  have hd : digB s (o + 1) = false := by
    rw [digB_succ g, decide_eq_false (by omega : ¬ (48 ≤ s[o].toNat ∧ s[o].toNat ≤ 57)), Bool.and_false]
  have := digB_off (s.size - (o + 1)) hd
  rw [show o + 1 + (s.size - (o + 1)) = s.size by omega] at this
  unfold numRes
  split
  · rfl
  · rw [if_neg (by rw [this]; decide)]
def txt00 : ByteArray := ⟨#[48, 48]⟩
def hms (x y z : ByteArray) : Option Int := if nmB x 1 3 167 = true ∧ nmB y 2 2 59 = true ∧ nmB z 2 2 59 = true then some (nmN z 2 2 + (nmN x 1 3 * 3600 + nmN y 2 2 * 60)) else none
theorem nm00 : nmB txt00 2 2 59 = true ∧ nmN txt00 2 2 = 0 := by decide
theorem nmB_is {s : ByteArray} {a b g : Int} : nmB s a b g = true ↔ 0 ≤ numRes s a b ∧ numRes s a b ≤ g := by unfold nmB; rw [Bool.and_eq_true, decide_eq_true_iff, decide_eq_true_iff]
theorem nmN_is {s : ByteArray} {a b : Int} (h : 0 ≤ numRes s a b) : nmN s a b = numRes s a b := by unfold nmN; rw [if_neg (by omega)]
theorem bo1 (x : ByteArray) : bareOf [x] = if numRes x 1 3 < 0 ∨ 167 < numRes x 1 3 then none else some (3600 * numRes x 1 3) := by
  show (if 3 < [x].length ∨ numRes x 1 3 < 0 ∨ 167 < numRes x 1 3 then none else bareGo [x] 1 (3600 * numRes x 1 3) 60) = _
  rw [bg_end (l := [x]) (i := 1) (by simp)]
  have e : (3 < [x].length) = False := eq_false (by simp)
  simp only [e, false_or]
theorem go2 (x y : ByteArray) (n : Int) : bareGo [x, y] 1 n 60 = if numRes y 2 2 < 0 ∨ 59 < numRes y 2 2 then none else some (n + numRes y 2 2 * 60) := by
  by_cases h : numRes y 2 2 < 0 ∨ 59 < numRes y 2 2
  · rw [if_pos h]; exact bg_no (l := [x, y]) (i := 1) (by simp) h
  · rw [if_neg h]; exact (bg_on (l := [x, y]) (i := 1) (by simp) h).trans (bg_end (l := [x, y]) (i := 2) (by simp))
theorem go3 (x y z : ByteArray) (n : Int) : bareGo [x, y, z] 1 n 60 = if numRes y 2 2 < 0 ∨ 59 < numRes y 2 2 then none else if numRes z 2 2 < 0 ∨ 59 < numRes z 2 2 then none else some (n + numRes y 2 2 * 60 + numRes z 2 2 * 1) := by
  by_cases h : numRes y 2 2 < 0 ∨ 59 < numRes y 2 2
  · rw [if_pos h]; exact bg_no (l := [x, y, z]) (i := 1) (by simp) h
  · rw [if_neg h]
    refine (bg_on (l := [x, y, z]) (i := 1) (by simp) h).trans ?_
    by_cases g : numRes z 2 2 < 0 ∨ 59 < numRes z 2 2
    · rw [if_pos g]; exact bg_no (l := [x, y, z]) (i := 2) (by simp) g
    · rw [if_neg g]; exact (bg_on (l := [x, y, z]) (i := 2) (by simp) g).trans (bg_end (l := [x, y, z]) (i := 3) (by simp))
theorem bo2 (x y : ByteArray) : bareOf [x, y] = if numRes x 1 3 < 0 ∨ 167 < numRes x 1 3 then none else bareGo [x, y] 1 (3600 * numRes x 1 3) 60 := by
  show (if 3 < [x, y].length ∨ numRes x 1 3 < 0 ∨ 167 < numRes x 1 3 then none else bareGo [x, y] 1 (3600 * numRes x 1 3) 60) = _
  have e : (3 < [x, y].length) = False := eq_false (by simp)
  simp only [e, false_or]
theorem bo3 (x y z : ByteArray) : bareOf [x, y, z] = if numRes x 1 3 < 0 ∨ 167 < numRes x 1 3 then none else bareGo [x, y, z] 1 (3600 * numRes x 1 3) 60 := by
  show (if 3 < [x, y, z].length ∨ numRes x 1 3 < 0 ∨ 167 < numRes x 1 3 then none else bareGo [x, y, z] 1 (3600 * numRes x 1 3) 60) = _
  have e : (3 < [x, y, z].length) = False := eq_false (by simp)
  simp only [e, false_or]
theorem bo4 {l : List ByteArray} (h : 3 < l.length) : bareOf l = none := if_pos (.inl h)
theorem hms_yes {x y z : ByteArray} (q : nmB x 1 3 167 = true) (p : nmB y 2 2 59 = true) (u : nmB z 2 2 59 = true) : hms x y z = some (nmN z 2 2 + (nmN x 1 3 * 3600 + nmN y 2 2 * 60)) := if_pos ⟨q, p, u⟩
theorem hms_0 {x y z : ByteArray} (q : ¬ nmB x 1 3 167 = true) : hms x y z = none := if_neg fun c => q c.1
theorem hms_1 {x y z : ByteArray} (q : ¬ nmB y 2 2 59 = true) : hms x y z = none := if_neg fun c => q c.2.1
theorem hms_2 {x y z : ByteArray} (q : ¬ nmB z 2 2 59 = true) : hms x y z = none := if_neg fun c => q c.2.2
theorem hms1 (x : ByteArray) : bareOf [x] = hms x txt00 txt00 := by
  rw [bo1]
  by_cases q : nmB x 1 3 167 = true
  · have q' := nmB_is.1 q
    rw [if_neg (by omega), hms_yes q nm00.1 nm00.1, nm00.2, nmN_is q'.1]
    congr 1
    omega
  · have q' : ¬ (0 ≤ numRes x 1 3 ∧ numRes x 1 3 ≤ 167) := fun c => q (nmB_is.2 c)
    rw [if_pos (by omega), hms_0 q]
theorem hms2 (x y : ByteArray) : bareOf [x, y] = hms x y txt00 := by
  rw [bo2, go2]
  by_cases q : nmB x 1 3 167 = true
  · have q' := nmB_is.1 q
    by_cases p : nmB y 2 2 59 = true
    · have p' := nmB_is.1 p
      rw [if_neg (by omega), if_neg (by omega), hms_yes q p nm00.1, nm00.2, nmN_is q'.1, nmN_is p'.1]
      congr 1
      omega
    · have p' : ¬ (0 ≤ numRes y 2 2 ∧ numRes y 2 2 ≤ 59) := fun c => p (nmB_is.2 c)
      rw [if_neg (by omega), if_pos (by omega), hms_1 p]
  · have q' : ¬ (0 ≤ numRes x 1 3 ∧ numRes x 1 3 ≤ 167) := fun c => q (nmB_is.2 c)
    rw [if_pos (by omega), hms_0 q]
theorem hms3 (x y z : ByteArray) : bareOf [x, y, z] = hms x y z := by
  rw [bo3, go3]
  by_cases q : nmB x 1 3 167 = true
  · have q' := nmB_is.1 q
    by_cases p : nmB y 2 2 59 = true
    · have p' := nmB_is.1 p
      by_cases u : nmB z 2 2 59 = true
      · have u' := nmB_is.1 u
        rw [if_neg (by omega), if_neg (by omega), if_neg (by omega), hms_yes q p u, nmN_is q'.1, nmN_is p'.1, nmN_is u'.1]
        congr 1
        omega
      · have u' : ¬ (0 ≤ numRes z 2 2 ∧ numRes z 2 2 ≤ 59) := fun c => u (nmB_is.2 c)
        rw [if_neg (by omega), if_neg (by omega), if_pos (by omega), hms_2 u]
    · have p' : ¬ (0 ≤ numRes y 2 2 ∧ numRes y 2 2 ≤ 59) := fun c => p (nmB_is.2 c)
      rw [if_neg (by omega), if_pos (by omega), hms_1 p]
  · have q' : ¬ (0 ≤ numRes x 1 3 ∧ numRes x 1 3 ≤ 167) := fun c => q (nmB_is.2 c)
    rw [if_pos (by omega), hms_0 q]
theorem bare_spl (s : ByteArray) : bareRes s = hms ((spl3 s).getD 0 ⟨#[]⟩) ((spl3 s).getD 1 txt00) ((spl3 s).getD 2 txt00) := by
  unfold bareRes spl3
  cases h : colon s with
  | none => rw [parts_no h]; exact hms1 s
  | some o =>
    rw [parts_yes h]
    show bareOf _ = hms (s.extract 0 o) ((spl2 (s.extract (o + 1) s.size)).getD 0 txt00) ((spl2 (s.extract (o + 1) s.size)).getD 1 txt00)
    generalize s.extract 0 o = x
    generalize s.extract (o + 1) s.size = r
    unfold spl2
    cases h2 : colon r with
    | none => rw [parts_no h2]; exact hms2 x r
    | some p =>
      rw [parts_yes h2]
      show bareOf _ = hms x (r.extract 0 p) (r.extract (p + 1) r.size)
      generalize r.extract 0 p = y
      generalize r.extract (p + 1) r.size = z
      cases h3 : colon z with
      | none => rw [parts_no h3]; exact hms3 x y z
      | some k =>
        rw [parts_yes h3]
        have l := parts_pos (s := z.extract (k + 1) z.size) _ 0 ⟨#[]⟩ (Nat.le_refl _)
        have nz := num_colon h3 2 2
        rw [bo4 (by simp only [List.length_cons]; omega), hms_2 (fun c => by
          have := (nmB_is.1 c).1
          omega)]
theorem ext_list (s : ByteArray) (a b : Nat) : (s.extract a b).data.toList = (s.data.toList.drop a).take (b - a) := by
  rw [ByteArray.data_extract, Array.toList_extract]
theorem ba_list {a b : ByteArray} (h : a.data.toList = b.data.toList) : a = b := by
  obtain ⟨x⟩ := a
  obtain ⟨y⟩ := b
  have e : x = y := Array.ext' h
  rw [e]
theorem pre_yes {s : ByteArray} {p : List UInt8} (h : s.extract 0 p.length = ⟨p.toArray⟩) : Lib.hasPrefix s.data.toList p = true ∧ (⟨(Lib.trimPrefix s.data.toList p).toArray⟩ : ByteArray) = s.extract p.length s.size := by
  have e := congrArg (fun t : ByteArray => t.data.toList) h
  simp only [ext_list, List.drop_zero, Nat.sub_zero] at e
  have hp : Lib.hasPrefix s.data.toList p = true := by
    unfold Lib.hasPrefix
    rw [List.isPrefixOf_iff_prefix, List.prefix_iff_eq_take]
    exact e.symm
  refine ⟨hp, ?_⟩
  unfold Lib.trimPrefix
  rw [if_pos hp]
  refine ba_list ?_
  rw [ext_list]
  show s.data.toList.drop p.length = _
  rw [List.take_of_length_le]
  rw [List.length_drop, Array.length_toList]
  exact Nat.le_refl _
theorem pre_no {s : ByteArray} {p : List UInt8} (h : ¬ s.extract 0 p.length = ⟨p.toArray⟩) : Lib.hasPrefix s.data.toList p = false ∧ (⟨(Lib.trimPrefix s.data.toList p).toArray⟩ : ByteArray) = s := by
  have hp : Lib.hasPrefix s.data.toList p = false := by
    cases e : Lib.hasPrefix s.data.toList p with
    | false => rfl
    | true =>
      unfold Lib.hasPrefix at e
      rw [List.isPrefixOf_iff_prefix, List.prefix_iff_eq_take] at e
      refine absurd (ba_list ?_) h
      rw [ext_list, List.drop_zero, Nat.sub_zero]
      exact e.symm
  refine ⟨hp, ?_⟩
  unfold Lib.trimPrefix
  rw [if_neg (by rw [hp]; decide)]
theorem ext1 {s : ByteArray} {k : Nat} (h : k < s.size) : s.extract k (k + 1) = ⟨#[s[k]]⟩ := by
  refine ba_list ?_
  rw [ext_list, Nat.add_sub_cancel_left]
  have hk : k < s.data.toList.length := by rw [Array.length_toList]; exact h
  rw [List.drop_eq_getElem_cons hk]
  rfl
theorem first_is {s : ByteArray} (h : 0 < s.size) (c : UInt8) : s.extract 0 1 = ⟨#[c]⟩ ↔ s[0].toNat = c.toNat := by
  rw [ext1 h]
  constructor
  · intro e
    have := congrArg (fun t : ByteArray => t.data.toList) e
    simp at this
    rw [this]
  · intro e
    rw [UInt8.toNat_inj.1 e]
theorem ext_short {s : ByteArray} (h : s.size = 0) (c : UInt8) : ¬ s.extract 0 1 = ⟨#[c]⟩ := by
  intro e
  have := congrArg ByteArray.size e
  rw [ByteArray.size_extract] at this
  have : (⟨#[c]⟩ : ByteArray).size = 1 := rfl
  omega
theorem sg_spec {s : ByteArray} {c : Nat} : ∀ (d k : Nat), s.size - k ≤ d → match signAt s c k with
    | some i => k ≤ i ∧ ∃ h : i + 1 < s.size, s[i].toNat = c ∧ s[i + 1].toNat = 61 ∧ ∀ (j : Nat) (g : j + 1 < s.size), k ≤ j → j < i → ¬ (s[j].toNat = c ∧ s[j + 1].toNat = 61)
    | none => ∀ (j : Nat) (g : j + 1 < s.size), k ≤ j → ¬ (s[j].toNat = c ∧ s[j + 1].toNat = 61) := by
  intro d
  induction d with
  | zero =>
    intro k h
    rw [sg_end (by omega)]
    intro j g hj
    omega
  | succ d ih =>
    intro k h
    by_cases hk : k + 1 < s.size
    · by_cases e : s[k].toNat = c ∧ s[k + 1].toNat = 61
      · rw [sg_here hk e]
        exact ⟨Nat.le_refl _, hk, e.1, e.2, fun j _ h1 h2 => by omega⟩
      · rw [sg_on hk e]
        have r := ih (k + 1) (by omega)
        cases hs : signAt s c (k + 1) with
        | none =>
          rw [hs] at r
          intro j g hj
          by_cases hjk : j = k
          · subst hjk; exact e
          · exact r j g (by omega)
        | some i =>
          rw [hs] at r
          obtain ⟨h1, h2, h3, h4, h5⟩ := r
          refine ⟨by omega, h2, h3, h4, fun j g hj hji => ?_⟩
          by_cases hjk : j = k
          · subst hjk; exact e
          · exact h5 j g (by omega) hji
    · rw [sg_end hk]
      intro j g hj
      omega
theorem occ_two {s : ByteArray} {c : UInt8} {i : Nat} : Lib.occAt s.data.toList [c, 61] i = true ↔ ∃ h : i + 1 < s.size, s[i].toNat = c.toNat ∧ s[i + 1].toNat = 61 := by
  unfold Lib.occAt
  by_cases h : i + 1 < s.size
  · have h0 : i < s.data.toList.length := by rw [Array.length_toList]; show i < s.size; omega
    have h1 : i + 1 < s.data.toList.length := by rw [Array.length_toList]; exact h
    rw [List.drop_eq_getElem_cons h0, List.drop_eq_getElem_cons h1]
    have g0 : s.data.toList[i] = s[i] := rfl
    have g1 : s.data.toList[i + 1] = s[i + 1] := rfl
    rw [g0, g1]
    simp only [List.isPrefixOf, Bool.and_true, Bool.and_eq_true, beq_iff_eq]
    constructor
    · rintro ⟨a, b⟩
      exact ⟨h, by rw [← a], by rw [← b]; rfl⟩
    · rintro ⟨_, a, b⟩
      exact ⟨UInt8.toNat_inj.1 a.symm, UInt8.toNat_inj.1 b.symm⟩
  · constructor
    · intro e
      exfalso
      rw [List.isPrefixOf_iff_prefix] at e
      have := e.length_le
      rw [List.length_drop, Array.length_toList] at this
      have : [c, 61].length ≤ s.size - i := this
      simp at this
      omega
    · rintro ⟨g, _⟩
      exact absurd g h
theorem cut_two (s : ByteArray) (c : UInt8) : match signAt s c.toNat 0 with
    | some i => i + 2 ≤ s.size ∧ Lib.cut s.data.toList [c, 61] = ((s.extract 0 i).data.toList, (s.extract (i + 2) s.size).data.toList, true)
    | none => Lib.cut s.data.toList [c, 61] = (s.data.toList, [], false) := by
  have r := sg_spec (s := s) (c := c.toNat) s.size 0 (by omega)
  cases hs : signAt s c.toNat 0 with
  | none =>
    rw [hs] at r
    have e := Lib.index_none (s := s.data.toList) (sub := [c, 61]) (fun j _ => by
      cases o : Lib.occAt s.data.toList [c, 61] j with
      | false => rfl
      | true =>
        obtain ⟨h, a, b⟩ := occ_two.1 o
        exact absurd ⟨a, b⟩ (r j h (Nat.zero_le _)))
    show Lib.cut s.data.toList [c, 61] = _
    unfold Lib.cut
    rw [e]
    rfl
  | some i =>
    rw [hs] at r
    obtain ⟨_, h, a, b, n⟩ := r
    have e := Lib.index_first (s := s.data.toList) (sub := [c, 61]) (i := i) (by rw [Array.length_toList]; show i ≤ s.size; omega) (occ_two.2 ⟨h, a, b⟩) (fun j hj => by
      cases o : Lib.occAt s.data.toList [c, 61] j with
      | false => rfl
      | true =>
        obtain ⟨h', a', b'⟩ := occ_two.1 o
        exact absurd ⟨a', b'⟩ (n j h' (Nat.zero_le _) hj))
    refine ⟨by omega, ?_⟩
    unfold Lib.cut
    rw [e, ext_list, ext_list, if_pos (by omega), Int.toNat_natCast, List.drop_zero, Nat.sub_zero, List.take_of_length_le (l := s.data.toList.drop (i + 2)) (by rw [List.length_drop, Array.length_toList]; exact Nat.le_refl _)]
    rfl
def letT (s : ByteArray) : ByteArray := if h : 0 < s.size then (if refOf s[s.size - 1].toNat < 0 then s else s.extract 0 (s.size - 1)) else s
def letR (s : ByteArray) : Int := if h : 0 < s.size then (if refOf s[s.size - 1].toNat < 0 then 0 else refOf s[s.size - 1].toNat) else 0
def RetLet (w : World) (s : ByteArray) (e : Ending) (w' : World) : Prop := e = .returned (.tuple #[.string (letT s), .int .i64 (letR s)]) ∧ w = w'
theorem let_no {s : ByteArray} (h : 0 < s.size) (e : refOf s[s.size - 1].toNat < 0) : letT s = s ∧ letR s = 0 := by
  unfold letT letR; rw [dif_pos h, dif_pos h, if_pos e, if_pos e]; exact ⟨rfl, rfl⟩
theorem let_yes {s : ByteArray} (h : 0 < s.size) {r : Int} (e : refOf s[s.size - 1].toNat = r) (n : ¬ r < 0) : letT s = s.extract 0 (s.size - 1) ∧ letR s = r := by
  unfold letT letR; rw [dif_pos h, dif_pos h, e, if_neg n, if_neg n]; exact ⟨rfl, rfl⟩
theorem letter_nil (s : ByteArray) (h : s.size = 0) (w : World) : Calls Tryz.prog 204 #[.string s] w (RetLet w s) := by
  have e : s = ⟨#[]⟩ := by
    obtain ⟨a⟩ := s
    have : a.size = 0 := h
    rw [Array.size_eq_zero_iff.1 this]
  subst e
  clear h
  go_enter Tryz.func204, Tryz.ntmps204
  go_wp2
  go_ret2
  exact ⟨rfl, rfl⟩
theorem letter119 (s : ByteArray) (h : 0 < s.size) (hs : s.size ≤ maxLen) (hc : s[s.size - 1].toNat = 119) (w : World) : Calls Tryz.prog 204 #[.string s] w (RetLet w s) := by
  have E := Lib.hid (let_yes h (r := 0) (by rw [hc]; rfl) (by decide))
  have E0 : (s.toList == []) = false := by
    rw [beq_eq_false_iff_ne]; intro c
    have := congrArg List.length c
    rw [ByteArray.toList_eq, Array.length_toList] at this
    have : s.size = 0 := this
    omega
  have l1 : (0 : Int) ≤ (s.size : Int) - 1 := by omega
  have l2 : (s.size : Int) - 1 ≤ s.size := by omega
  have ss : s.size ≤ 9223372036854775807 := hs
  go_enter Tryz.func204, Tryz.ntmps204
  go_wp2
  go_ret2
  exact ⟨by rw [E.out.1, E.out.2]; rfl, rfl⟩
theorem letter115 (s : ByteArray) (h : 0 < s.size) (hs : s.size ≤ maxLen) (hc : s[s.size - 1].toNat = 115) (w : World) : Calls Tryz.prog 204 #[.string s] w (RetLet w s) := by
  have E := Lib.hid (let_yes h (r := 1) (by rw [hc]; rfl) (by decide))
  have E0 : (s.toList == []) = false := by
    rw [beq_eq_false_iff_ne]; intro c
    have := congrArg List.length c
    rw [ByteArray.toList_eq, Array.length_toList] at this
    have : s.size = 0 := this
    omega
  have l1 : (0 : Int) ≤ (s.size : Int) - 1 := by omega
  have l2 : (s.size : Int) - 1 ≤ s.size := by omega
  have ss : s.size ≤ 9223372036854775807 := hs
  go_enter Tryz.func204, Tryz.ntmps204
  go_wp2
  go_ret2
  exact ⟨by rw [E.out.1, E.out.2]; rfl, rfl⟩
theorem letter117 (s : ByteArray) (h : 0 < s.size) (hs : s.size ≤ maxLen) (hc : s[s.size - 1].toNat = 117) (w : World) : Calls Tryz.prog 204 #[.string s] w (RetLet w s) := by
  have E := Lib.hid (let_yes h (r := 2) (by rw [hc]; rfl) (by decide))
  have E0 : (s.toList == []) = false := by
    rw [beq_eq_false_iff_ne]; intro c
    have := congrArg List.length c
    rw [ByteArray.toList_eq, Array.length_toList] at this
    have : s.size = 0 := this
    omega
  have l1 : (0 : Int) ≤ (s.size : Int) - 1 := by omega
  have l2 : (s.size : Int) - 1 ≤ s.size := by omega
  have ss : s.size ≤ 9223372036854775807 := hs
  go_enter Tryz.func204, Tryz.ntmps204
  go_wp2
  go_ret2
  exact ⟨by rw [E.out.1, E.out.2]; rfl, rfl⟩
theorem letter103 (s : ByteArray) (h : 0 < s.size) (hs : s.size ≤ maxLen) (hc : s[s.size - 1].toNat = 103) (w : World) : Calls Tryz.prog 204 #[.string s] w (RetLet w s) := by
  have E := Lib.hid (let_yes h (r := 2) (by rw [hc]; rfl) (by decide))
  have E0 : (s.toList == []) = false := by
    rw [beq_eq_false_iff_ne]; intro c
    have := congrArg List.length c
    rw [ByteArray.toList_eq, Array.length_toList] at this
    have : s.size = 0 := this
    omega
  have l1 : (0 : Int) ≤ (s.size : Int) - 1 := by omega
  have l2 : (s.size : Int) - 1 ≤ s.size := by omega
  have ss : s.size ≤ 9223372036854775807 := hs
  go_enter Tryz.func204, Tryz.ntmps204
  go_wp2
  go_ret2
  exact ⟨by rw [E.out.1, E.out.2]; rfl, rfl⟩
theorem letter122 (s : ByteArray) (h : 0 < s.size) (hs : s.size ≤ maxLen) (hc : s[s.size - 1].toNat = 122) (w : World) : Calls Tryz.prog 204 #[.string s] w (RetLet w s) := by
  have E := Lib.hid (let_yes h (r := 2) (by rw [hc]; rfl) (by decide))
  have E0 : (s.toList == []) = false := by
    rw [beq_eq_false_iff_ne]; intro c
    have := congrArg List.length c
    rw [ByteArray.toList_eq, Array.length_toList] at this
    have : s.size = 0 := this
    omega
  have l1 : (0 : Int) ≤ (s.size : Int) - 1 := by omega
  have l2 : (s.size : Int) - 1 ≤ s.size := by omega
  have ss : s.size ≤ 9223372036854775807 := hs
  go_enter Tryz.func204, Tryz.ntmps204
  go_wp2
  go_ret2
  exact ⟨by rw [E.out.1, E.out.2]; rfl, rfl⟩
theorem letter_no (s : ByteArray) (c : Nat) (h : 0 < s.size) (hs : s.size ≤ maxLen) (hc : s[s.size - 1].toNat = c) (c1 : ¬ c = 119) (c2 : ¬ c = 115) (c3 : ¬ c = 117) (c4 : ¬ c = 103) (c5 : ¬ c = 122) (w : World) : Calls Tryz.prog 204 #[.string s] w (RetLet w s) := by
  have E := Lib.hid (let_no h (by rw [hc]; unfold refOf; rw [if_neg c1, if_neg c2, if_neg c3, if_neg c4, if_neg c5]; decide))
  have E0 : (s.toList == []) = false := by
    rw [beq_eq_false_iff_ne]; intro c
    have := congrArg List.length c
    rw [ByteArray.toList_eq, Array.length_toList] at this
    have : s.size = 0 := this
    omega
  have l1 : (0 : Int) ≤ (s.size : Int) - 1 := by omega
  have l2 : (s.size : Int) - 1 ≤ s.size := by omega
  have ss : s.size ≤ 9223372036854775807 := hs
  have f1 : ((c : Int) == 119) = false := by rw [beq_eq_false_iff_ne]; omega
  have f2 : ((c : Int) == 115) = false := by rw [beq_eq_false_iff_ne]; omega
  have f3 : ((c : Int) == 117) = false := by rw [beq_eq_false_iff_ne]; omega
  have f4 : ((c : Int) == 103) = false := by rw [beq_eq_false_iff_ne]; omega
  have f5 : ((c : Int) == 122) = false := by rw [beq_eq_false_iff_ne]; omega
  clear c1 c2 c3 c4 c5
  go_enter Tryz.func204, Tryz.ntmps204
  go_wp2
  go_ret2
  exact ⟨by rw [E.out.1, E.out.2]; rfl, rfl⟩
theorem cutLetterP (s : ByteArray) (hs : s.size ≤ maxLen) (w : World) : Calls Tryz.prog 204 #[.string s] w (RetLet w s) := by
  by_cases h : 0 < s.size
  · by_cases c1 : s[s.size - 1].toNat = 119
    · exact letter119 s h hs c1 w
    by_cases c2 : s[s.size - 1].toNat = 115
    · exact letter115 s h hs c2 w
    by_cases c3 : s[s.size - 1].toNat = 117
    · exact letter117 s h hs c3 w
    by_cases c4 : s[s.size - 1].toNat = 103
    · exact letter103 s h hs c4 w
    by_cases c5 : s[s.size - 1].toNat = 122
    · exact letter122 s h hs c5 w
    exact letter_no s _ h hs rfl c1 c2 c3 c4 c5 w
  · exact letter_nil s (by omega) w
end Go.Proofs.YtnkmlfbnfndfpaaGreatDoor
