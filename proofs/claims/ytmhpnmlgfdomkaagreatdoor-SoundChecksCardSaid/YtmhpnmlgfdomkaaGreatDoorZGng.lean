import Derived.Ground.SlgmProg
import Derived.Shelf.SortM.Plain
import Derived.Shelf.SortM.SortNone
import Derived.Test.YtmhpnmlgfdomkaaGreatDoorProg
import Derived.Test.YtmhpnmlgfdomkaaGreatDoorZGnb
import Derived.Test.YtmhpnmlgfdomkaaGreatDoorZGq
import Derived.Sort.OwnSorted
import Derived.Maps.AppendAt
set_option maxRecDepth 100000
set_option maxHeartbeats 64000000
namespace Go.Proofs.YtmhpnmlgfdomkaaGreatDoor
open Go.Shelf Go.RowKit
def srlaysSlM6_f31_ren : Go.Shelf.Ren := ⟨fun | 6 => 23 | 8 => 48 | 9 => 47 | 19 => 78 | 20 => 79 | 21 => 69 | 22 => 70 | 23 => 71 | 24 => 72 | 25 => 73 | 26 => 74 | 27 => 75 | 28 => 76 | 29 => 77 | 36 => 100 | 31 => 101 | 32 => 102 | 37 => 103 | 38 => 104 | 39 => 105 | 41 => 123 | n => n, fun | 27 => 46 | 29 => 9 | 3 => 3 | 32 => 84 | 26 => 46 | 0 => 0 | 44 => 111 | 46 => 113 | 4 => 4 | 36 => 104 | 35 => 103 | 41 => 44 | 5 => 5 | 9 => 9 | 53 => 125 | 57 => 129 | 63 => 147 | 64 => 148 | n => n, fun | n => n⟩
theorem srlaysSlM6_f31 : Go.Proofs.SlLaysM.n6 Tryz.prog srlaysSlM6_f31_ren := {
  mixed := by kernel_rfl
  f6 := ⟨Tryz.f23.name, by decide, Tryz.func23.trans (congrArg some (by kernel_rfl))⟩
  f8 := Tryz.func48.trans (congrArg some (by kernel_rfl))
  f9 := ⟨Tryz.f47.name, by decide, Tryz.func47.trans (congrArg some (by kernel_rfl))⟩
  f19 := Tryz.func78.trans (congrArg some (by kernel_rfl))
  f20 := Tryz.func79.trans (congrArg some (by kernel_rfl))
  f21 := ⟨Tryz.f69.name, by decide, Tryz.func69.trans (congrArg some (by kernel_rfl))⟩
  f22 := ⟨Tryz.f70.name, by decide, Tryz.func70.trans (congrArg some (by kernel_rfl))⟩
  f23 := ⟨Tryz.f71.name, by decide, Tryz.func71.trans (congrArg some (by kernel_rfl))⟩
  f24 := ⟨Tryz.f72.name, by decide, Tryz.func72.trans (congrArg some (by kernel_rfl))⟩
  f25 := ⟨Tryz.f73.name, by decide, Tryz.func73.trans (congrArg some (by kernel_rfl))⟩
  f26 := ⟨Tryz.f74.name, by decide, Tryz.func74.trans (congrArg some (by kernel_rfl))⟩
  f27 := ⟨Tryz.f75.name, by decide, Tryz.func75.trans (congrArg some (by kernel_rfl))⟩
  f28 := ⟨Tryz.f76.name, by decide, Tryz.func76.trans (congrArg some (by kernel_rfl))⟩
  f29 := ⟨Tryz.f77.name, by decide, Tryz.func77.trans (congrArg some (by kernel_rfl))⟩
  f31 := Tryz.func101.trans (congrArg some (by kernel_rfl))
  f32 := Tryz.func102.trans (congrArg some (by kernel_rfl))
  f36 := ⟨Tryz.f100.name, by decide, Tryz.func100.trans (congrArg some (by kernel_rfl))⟩
  f37 := ⟨Tryz.f103.name, by decide, Tryz.func103.trans (congrArg some (by kernel_rfl))⟩
  f38 := ⟨Tryz.f104.name, by decide, Tryz.func104.trans (congrArg some (by kernel_rfl))⟩
  f39 := ⟨Tryz.f105.name, by decide, Tryz.func105.trans (congrArg some (by kernel_rfl))⟩
  f41 := ⟨Tryz.f123.name, by decide, Tryz.func123.trans (congrArg some (by kernel_rfl))⟩
  t0 := Tryz.underlying0
  a0 := Tryz.isAgg0
  z0 := Tryz.sizeOf0
  v0 := Tryz.zeroValue0
  t3 := Tryz.underlying3
  a3 := Tryz.isAgg3
  z3 := Tryz.sizeOf3
  v3 := Tryz.zeroValue3
  t4 := Tryz.underlying4
  a4 := Tryz.isAgg4
  z4 := Tryz.sizeOf4
  v4 := Tryz.zeroValue4
  t5 := Tryz.underlying5
  a5 := Tryz.isAgg5
  z5 := Tryz.sizeOf5
  v5 := Tryz.zeroValue5
  t9 := Tryz.underlying9
  a9 := Tryz.isAgg9
  z9 := Tryz.sizeOf9
  v9 := Tryz.zeroValue9
  t26 := Tryz.underlying46
  a26 := Tryz.isAgg46
  z26 := Tryz.sizeOf46
  v26 := Tryz.zeroValue46
  t27 := Tryz.underlying46
  a27 := Tryz.isAgg46
  z27 := Tryz.sizeOf46
  v27 := Tryz.zeroValue46
  t29 := Tryz.underlying9
  a29 := Tryz.isAgg9
  z29 := Tryz.sizeOf9
  v29 := Tryz.zeroValue9
  t32 := Tryz.underlying84
  a32 := Tryz.isAgg84
  z32 := Tryz.sizeOf84
  v32 := Tryz.zeroValue84
  t35 := Tryz.underlying103
  a35 := Tryz.isAgg103
  z35 := Tryz.sizeOf103
  v35 := Tryz.zeroValue103
  t36 := Tryz.underlying104
  a36 := Tryz.isAgg104
  z36 := Tryz.sizeOf104
  v36 := Tryz.zeroValue104
  t41 := Tryz.underlying44
  a41 := Tryz.isAgg44
  z41 := Tryz.sizeOf44
  v41 := Tryz.zeroValue44
  t44 := Tryz.underlying111
  a44 := Tryz.isAgg111
  z44 := Tryz.sizeOf111
  v44 := Tryz.zeroValue111
  t46 := Tryz.underlying113
  a46 := Tryz.isAgg113
  z46 := Tryz.sizeOf113
  v46 := Tryz.zeroValue113
  t53 := Tryz.underlying125
  a53 := Tryz.isAgg125
  z53 := Tryz.sizeOf125
  v53 := Tryz.zeroValue125
  t57 := Tryz.underlying129
  a57 := Tryz.isAgg129
  z57 := Tryz.sizeOf129
  v57 := Tryz.zeroValue129
  t63 := Tryz.underlying147
  a63 := Tryz.isAgg147
  z63 := Tryz.sizeOf147
  v63 := Tryz.zeroValue147
  t64 := Tryz.underlying148
  a64 := Tryz.isAgg148
  z64 := Tryz.sizeOf148
  v64 := Tryz.zeroValue148 }
open Go.Sort Go.RowKit in
theorem srslices_Sort_string (blk off cap : Nat) (ss : List (List UInt8)) (w : World) (hH : Holds encStr w blk off ss.toArray) (hblk : blk < w.heap.size) (hsz : ss.length < 4611686018427387904) :
    Calls Tryz.prog 23 #[.slice (some ⟨blk, off, none⟩) ss.length cap] w fun e w' =>
      e = .returned (.tuple #[]) ∧ ∃ n os, w' = grow (putRow encStr (Sort.ahead w n) blk off (ss.mergeSort fun x y => decide (x ≤ y)).toArray) os := AnyM.slices_Sort_string srlaysSlM6_f31 blk off cap ss w hH hblk hsz
open Go.RowKit Go.Sort in
theorem srslices_Sort_string_none (p : Option Addr) (cap : Nat) (w : World) :
    Calls Tryz.prog 23 #[.slice p 0 cap] w fun e w' => e = .returned (.tuple #[]) ∧ w' = w := AnyM.slices_Sort_string_none srlaysSlM6_f31 p cap w
end Go.Proofs.YtmhpnmlgfdomkaaGreatDoor
namespace Go.Proofs.YtmhpnmlgfdomkaaGreatDoor
open Go.RowKit Go.Maps Go.Sort Go.WideShapes
theorem cloneW (s : ByteArray) (hs : s.size ≤ 281474976710656) (w : World) : Calls Tryz.prog 22 #[.string s] w fun e w' => e = .returned (.string s) ∧ Below w.heap.size w w' := by
  have CW := Lib.hid (fun w => stringslite_Clone s w hs)
  go_enter Tryz.func22, Tryz.ntmps22
  go_wp2_with (go_at_call 46; refine (CW.out _).mono ?_; rintro e w' ⟨rfl, h⟩)
  go_ret
  exact ⟨rfl, h⟩
theorem row_ne_map {H : Type} {P : Program} {k : TypeId} {R : Value → Option (DataW H × List MemPlace)} {w : World} {b r n : Nat} {D : DataW H} {left : Lit → Bool} {cnt base : Nat} {e : TypeId} {size : Nat} {v : Value} {m : Nat} {xs : List Value}
    (h : w.ownsRow base e size v m xs) (hr : w.ranges P k R b r n D left cnt) : some b ≠ v.ownBlock := by
  obtain ⟨_, _, _, _, _, hit, _⟩ := hr
  rcases h.2 with ⟨rfl, _⟩ | ⟨g, cap, cur, rfl, _, hb, _⟩
  · simp [Value.ownBlock]
  · intro e1
    have : b = g := by simpa [Value.ownBlock] using e1
    subst this
    rw [hit] at hb
    cases hb
def bsN (ss : List (List UInt8)) : List ByteArray := ss.map (fun b => ⟨b.toArray⟩)
theorem enc_strs (ss : List (List UInt8)) : ss.map encStr = strs (bsN ss) := by
  unfold bsN strs encStr
  rw [List.map_map]; rfl
theorem bs_key (x : List UInt8) : kS ⟨x.toArray⟩ = .string x := by unfold kS; simp
theorem sorted_names {S : Sr} {ss : List (List UInt8)} (hn : ss.Nodup) (hm : ∀ x, x ∈ ss ↔ (⟨x.toArray⟩ : ByteArray) ∈ allN S) : bsN (ss.mergeSort leB) = namesN S := by
  have tr : ∀ a b c : List UInt8, leB a b = true → leB b c = true → leB a c = true := fun a b c h1 h2 => by simp only [leB, decide_eq_true_eq] at *; exact List.le_trans h1 h2
  have tot : ∀ a b : List UInt8, (leB a b || leB b a) = true := fun a b => by simp only [leB, Bool.or_eq_true, decide_eq_true_eq]; exact List.le_total a b
  have hp := List.mergeSort_perm ss leB
  refine namesN_uniq ?_ fun a => ?_
  · have h1 := List.pairwise_mergeSort tr tot ss
    have h2 := hp.nodup_iff.2 hn
    unfold bsN
    refine List.pairwise_map.2 ((h1.and h2).imp fun {a b} h => ?_)
    rw [ltN_iff]
    obtain ⟨k1, k2⟩ := h
    simp only [leB, decide_eq_true_eq] at k1
    show a < b
    rcases List.le_iff_lt_or_eq.1 k1 with k | k
    · exact k
    · exact absurd k k2
  · unfold bsN
    rw [List.mem_map]
    constructor
    · rintro ⟨x, hx, rfl⟩
      exact (hm x).1 (hp.mem_iff.1 hx)
    · intro h
      refine ⟨a.data.toList, hp.mem_iff.2 ((hm _).2 ?_), ?_⟩
      · rw [show (⟨a.data.toList.toArray⟩ : ByteArray) = a by rcases a with ⟨⟨_⟩⟩; rfl]; exact h
      · rcases a with ⟨⟨_⟩⟩; rfl
theorem holds_names {S : Sr} {D : DataW Value} (h : Holds13 D (brF (nmA S))) (x : List UInt8) : has D (.string x) = true ↔ (⟨x.toArray⟩ : ByteArray) ∈ allN S := by
  have := h ⟨x.toArray⟩
  rw [bs_key] at this
  rw [← nmA_some]
  unfold brF at this
  cases hf : nmA S ⟨x.toArray⟩ with
  | none =>
    rw [hf] at this
    have t2 : has D (.string x) = false := this
    rw [t2]; simp
  | some y =>
    rw [hf] at this
    have t2 : has D (.string x) = true := this.1
    rw [t2]; simp
theorem namesE (S : Sr) (a b c : Hd) (ze : List Ze) (w : World) (hv : SrcV w S a b c ze) (hx : S.in64) (small : S.zones.length + S.links.length ≤ 1000) (hz : ∀ t ∈ allN S, t.size ≤ 281474976710656) : Calls Tryz.prog 9 #[.agg #[a.val, b.val, c.val]] w (RetSs w (namesN S)) := by
  obtain ⟨i0, hi, hz0, hz1, hz2⟩ := info_partsS str_info
  have BC := Lib.hid (fun W (h : Below w.heap.size w W) => bearersE S a b c ze W (hv.below h) hx small)
  have CW := Lib.hid (fun (s : ByteArray) (h : s ∈ allN S) W => cloneW s (hz s h) W)
  have SMA := Lib.hid small
  clear hv hx small hz
  obtain ⟨A, n, k⟩ := a
  obtain ⟨B, m, d⟩ := b
  obtain ⟨C, q, e⟩ := c
  simp only [Hd.val] at *
  go_enter Tryz.func9, Tryz.ntmps9
  go_upto_region 1 with (fail)
  have KB := (BK.nil w).lit [.slice A n k, .slice B m d, .slice C q e] 26
  generalize w.alloc (.cells #[.slice A n k, .slice B m d, .slice C q e] 26) = W at *
  obtain ⟨_, x0, x1, x2, _⟩ := KB.head.three
  go_wp2_with (go_at_call 20; refine (BC.out _ KB.hb).mono ?_; rintro e9 W9 ⟨mb, n0, rfl, HS, hmb, hn0, hk⟩; replace KB := KB.below hk; clear hk x0 x1 x2 BC; obtain ⟨D, hown, hh⟩ := HS.own; clear HS; obtain ⟨w0, hrun, hrg0, hg0, hs0⟩ := hown.range str_keyed Tryz.underlying50)
  clear hrun
  have hb0 : Below w.heap.size w W9 := KB.hb
  have hd0 : Maps.size D ≤ 1000 := Nat.le_trans hown.size_le (Nat.le_trans hn0 SMA.out)
  have HN := Lib.hid (holds_names hh)
  clear hh hown hn0 SMA KB
  have hr0 : w.heap.size ≤ W9.heap.size := hb0.size
  generalize W9.heap.size = r at *
  have hb1 : Below w.heap.size w w0 := below_thru hb0 ⟨hg0.os, hg0.tape, hg0.output, hg0.size, fun k hk => hg0.block k hk (by simp)⟩
  clear hb0 hg0 hs0
  go_loopw [3] (fun v3 wr => ∃ (left : Lit → Bool) (cnt : Nat) (ss : List (List UInt8)), wr.ranges Tryz.prog 9 rawV mb r n0 D left cnt ∧ ss.length + cnt ≤ 1000 ∧ wr.ownsRow w.heap.size 9 1 v3 ss.length (ss.map encStr) ∧ Collected D left ss ∧ Below w.heap.size w wr)
    (fun _ wr => wr.rangeLeft mb r)
  case atStart => exact ⟨_, _, [], hrg0, by simpa using hd0, World.ownsRow_nil _ _ _ _, Collected.start D, hb1⟩
  case round =>
    clear hrg0 hb1 hd0
    obtain ⟨left, cnt, ss, hrg, hcs, hrow, hC, hb⟩ := hrel
    have HC := Lib.hid hC
    clear hC
    go_wp2_with (first
      | (at_next; refine wpList_next_ranges _ rfl _ rfl 9 str_keyed rawV encStr id (fun key kl hk => by obtain ⟨x, hx, _⟩ := Maps.keyOf_str Tryz.underlying9 hk; exact ⟨x, hx⟩) (fun v y _ => ⟨v, rfl⟩) mb r n0 _ _ _ rfl hrg ?_ ?_))
    · intro hc0 hl0
      have EQ := Lib.hid (sorted_names HC.out.1 (fun x => (HC.out.2 x).trans (by rw [hl0, ← HN.out x]; simp)))
      clear HN HC
      rcases hrow.2 with ⟨hnil, hze⟩ | ⟨g, cap, cur, rfl, hbase, hb9, h1, h2, h3, h4⟩
      · have hss : ss = [] := List.eq_nil_of_length_eq_zero hze
        subst hss
        subst hnil
        have hc := Lib.hid (srslices_Sort_string_none none 0 wr)
        clear hrow hcs hze
        go_wp2_with (go_at_call 23; refine hc.out.mono ?_; clear hc; rintro e w' ⟨rfl, rfl⟩)
        go_ret
        exact ⟨none, 0, 0, rfl, by rw [← EQ.out, show bsN (([] : List (List UInt8)).mergeSort leB) = [] by simp [bsN]]; exact Ss.nil _, hb⟩
      · have hH : Go.Sort.Holds encStr wr g 0 ss.toArray := holds_of_block hb9 (by simpa using h4)
        have hgl : g < wr.heap.size := (Array.getElem?_eq_some_iff.1 hb9).1
        have hc := Lib.hid (srslices_Sort_string g 0 cap ss wr hH hgl (by omega))
        clear hH hgl
        have OS := Lib.hid (fun nn os => ownsRow_sorted (n := nn) (os := os) (ss := ss) (ts := ss.mergeSort leB) (by simp) hbase hb9 h1 h2 h3)
        have hbz := hb.size
        clear hrow h1 h2 h3 h4 hb9
        go_wp2_with (go_at_call 23; refine hc.out.mono ?_; clear hc; rintro e w' ⟨rfl, nn, os, rfl⟩)
        go_ret
        have o1 := OS.out nn os
        rw [enc_strs, EQ.out] at o1
        obtain ⟨A', c', e1, hS⟩ := Ss.of_own o1
        exact ⟨A', _, c', by rw [← e1]; rfl, hS, hb.grown (grownBy_sorted _) hbz (fun j hj => by cases hj; exact hbase)⟩
    · intro x c kl yd yp w2 cnt2 hkey hlk hv hat hrg2 hlt hg2 hs2 hen
      obtain ⟨x', ex, rfl, _⟩ := Maps.keyOf_str Tryz.underlying9 hkey
      obtain rfl : x = x' := encStr_inj ex
      have hin := (HN.out x).1 (has_true_of_atKey hat)
      have CX := Lib.hid (fun W => CW.out _ hin W)
      have C2 := Lib.hid (HC.out.step hlk hat)
      have hrow2 := hrow.kept hg2 (Or.inr (row_ne_iter hrow hrg).symm)
      have hbz := hb.size
      have hb2 : Below w.heap.size w w2 := hb.grown hg2 hbz (fun j hj => by cases hj; exact hr0)
      have NE := Lib.hid (fun W4 (hg : w2.grownBy W4 (none : Option Nat)) => (⟨hrow2.kept hg (by cases q9 : u3.ownBlock with | none => exact .inl rfl | some k => exact .inr (by intro c; cases c)), hrg2.kept hg (by simp) (by simp)⟩ : W4.ownsRow w.heap.size 9 1 u3 ss.length (ss.map encStr) ∧ W4.ranges Tryz.prog 9 rawV mb r n0 D _ cnt2))
      have M0 := Lib.hid hrg.left_eq
      clear hs2 hin hlk hat hg2 hv hkey hrow hrg hb hrow2 hrg2
      have hes : encStr x = .string ⟨x.toArray⟩ := rfl
      rw [hes] at hen
      rw [hes]
      go_wp2_with (first
        | (go_at_call 22; refine (CX.out _).mono ?_; rintro e9 W4 ⟨rfl, hk⟩; (have hb4 := below_thru hb2 hk); (obtain ⟨hrow4, hrg4⟩ := NE.out W4 (belGrown hk none)); (have hlow := row_ne_map hrow4 hrg4); (have hit := row_ne_iter hrow4 hrg4); clear hk hb2 NE)
        | (at_builtin
           refine wpList_append_own_at _ rfl (.tmp 12) (.tmp 15) 46 rfl w.heap.size 9 i0 _ 1 16 Tryz.underlying46 hi hz0 hz1 hz2 rfl (by decide) u3 ss.length (ss.map encStr) rfl (hrow4.alloc _) ⟨W4.heap.size, 0, none⟩ 1 1 [encStr x] rfl rfl (cell_one_new _ _ _) ?_ ?_ ?_ ?_ ?_
           · intro u hu; rw [List.mem_singleton.1 hu]; rfl
           · unfold maxLen; omega
           · omega
           · have := hb4.size; simp; omega
           intro v1 w5 hown5 hg5 _ _))
      have hrg5 := (hrg4.alloc (.cells #[encStr x] 9)).kept hg5 hlow hit
      go_roundw
      case rel =>
        refine ⟨_, cnt2, ss ++ [x], hrg5, by simp; omega, by simpa using hown5, C2.out, ?_⟩
        exact (hb4.alloc hb4.size _).grown hg5 (by have := hb4.size; simp; omega) (fun j hj => (hrow4.lt j hj).1)
      case measure => rw [hrg5.left_eq, M0.out]; omega
end Go.Proofs.YtmhpnmlgfdomkaaGreatDoor
