/- Stage 13's law SoundResolves. -/
import Derived.Test.YtpbgddoicjjhnaaGreatDoorYNal
import Derived.Test.YtpbgddoicjjhnaaGreatDoorYGnf
import Derived.Deep.RegionHeld3
set_option maxRecDepth 100000
set_option maxHeartbeats 64000000
namespace Go.Proofs.YtpbgddoicjjhnaaGreatDoor
open Go.RowKit Go.Maps Go.WideShapes
theorem putN_lx (x : ByteArray) : ∀ (l : List ByteArray), (putN x l).length ≤ l.length + 1
  | [] => Nat.le_refl _
  | y :: t => by
    rw [putN_cons]
    split
    · have := putN_lx x t; simp only [List.length_cons]; omega
    · split <;> simp
theorem putsN_lx : ∀ (l s : List ByteArray), (putsN s l).length ≤ s.length + l.length
  | [], _ => Nat.le_refl _
  | x :: r, s => by
    have h1 := putsN_lx r (putN x s)
    have h2 := putN_lx x s
    show (putsN (putN x s) r).length ≤ _
    simp only [List.length_cons]
    omega
theorem namesN_le (S : Sr) : (namesN S).length ≤ S.zones.length + S.links.length := by
  have := putsN_lx (allN S) []
  unfold namesN
  have e : (allN S).length = S.zones.length + S.links.length := by unfold allN; simp
  simp only [List.length_nil] at this
  omega
theorem sr_ok (A B C : Option Addr) (n k m d q e : Nat) (nm : ByteArray) (w : World) (LC : Hid (∀ W, Below w.heap.size w W → Calls Tryz.prog 7 #[.agg #[.slice A n k, .slice B m d, .slice C q e]] W (RetLi W n m q))) (AC : Hid (∀ W, Below w.heap.size w W → Calls Tryz.prog 8 #[] W (RetV W (.bool true)))) (L : List ByteArray) (rv : Int) (rb : Bool)
    (RC : Hid (m ≤ 60 → q ≤ 200 → ∀ W, Below w.heap.size w W → Calls Tryz.prog 11 #[.agg #[.slice A n k, .slice B m d, .slice C q e], .string nm] W (fun e9 w' => e9 = .returned (.tuple #[.int .i64 rv, .bool rb]) ∧ Below W.heap.size W w')))
    (RE : Hid (m ≤ 60 → q ≤ 200 → ∀ W, Below w.heap.size w W → Calls Tryz.prog 12 #[.agg #[.slice A n k, .slice B m d, .slice C q e], .string nm] W (fun e9 w' => e9 = .returned (.tuple #[.int .i64 rv, .bool rb]) ∧ Below W.heap.size W w')))
    (NC : Hid (m ≤ 60 → q ≤ 200 → ∀ W, Below w.heap.size w W → Calls Tryz.prog 14 #[.agg #[.slice A n k, .slice B m d, .slice C q e]] W (RetSs W L)))
    (DC : Hid (m ≤ 60 → q ≤ 200 → ∀ W, Below w.heap.size w W → Calls Tryz.prog 15 #[.agg #[.slice A n k, .slice B m d, .slice C q e]] W (RetSs W L)))
    (LB : Hid (m ≤ 60 → q ≤ 200 → L.length ≤ 2000000))
    (SC : Hid (∀ (A B : Option Addr) (n c m d : Nat) W, Ss W A n c L → Ss W B m d L → n ≤ 2000000 → Calls Tryz.prog 13 #[.slice A n c, .slice B m d] W (RetV W (.bool true)))) : Calls Tryz.prog 4 #[.agg #[.slice A n k, .slice B m d, .slice C q e], .string nm] w (RetV w (.bool true)) := by
  go_enter Tryz.func4, Tryz.ntmps4
  go_upto_region 1 with (fail)
  have KB := (BK.nil w).lit [.slice A n k, .slice B m d, .slice C q e] 26
  rw [show ([.slice A n k, .slice B m d, .slice C q e] : List Value).toArray = #[.slice A n k, .slice B m d, .slice C q e] from rfl] at KB
  generalize w.alloc (.cells #[.slice A n k, .slice B m d, .slice C q e] 26) = W at *
  obtain ⟨_, x0, x1, x2, _⟩ := KB.head.three
  go_upto_region 3 with (first | (go_at_call 7; refine (LC.out _ KB.hb).mono ?_; clear LC; rintro e9 W1 ⟨r9, rfl, HL, hk⟩; replace KB := KB.below hk; clear hk x0 x1 x2; obtain ⟨_, x0, x1, x2, _⟩ := KB.head.three; cases r9) | (go_at_call 8; refine (AC.out _ KB.hb).mono ?_; rintro e9 W8 ⟨rfl, hk⟩; replace KB := KB.below hk; clear hk AC x0 x1 x2; obtain ⟨_, x0, x1, x2, _⟩ := KB.head.three))
  · go_ret
    exact ⟨rfl, KB.hb⟩
  obtain ⟨_, hm, hq⟩ : n ≤ 60 ∧ m ≤ 60 ∧ q ≤ 200 := by simpa using HL
  clear HL
  go_upto_region 5 with (first
    | (go_at_call 11; refine (RC.out hm hq _ KB.hb).mono ?_; clear RC; rintro e9 W2 ⟨rfl, hk⟩; replace KB := KB.below hk; clear hk x0 x1 x2; obtain ⟨_, x0, x1, x2, _⟩ := KB.head.three)
    | (go_at_call 12; refine (RE.out hm hq _ KB.hb).mono ?_; clear RE; rintro e9 W6 ⟨rfl, hk⟩; replace KB := KB.below hk; clear hk x0 x1 x2; obtain ⟨_, x0, x1, x2, _⟩ := KB.head.three))
  go_region_held3 (fun w' => w'.cell? ⟨w.heap.size, 0, none⟩ = some (.slice A n k) ∧ w'.cell? ⟨w.heap.size, 1, none⟩ = some (.slice B m d) ∧ w'.cell? ⟨w.heap.size, 2, none⟩ = some (.slice C q e)) (first | (with_reducible exact ⟨x0, x1, x2⟩) | go_keep)
    (first
      | (go_at_call 8; (with_reducible refine (AC.out _ (by with_reducible first | exact KB.hb | exact KB.drew.hb)).mono ?_); rintro e9 W8 ⟨rfl, hk9⟩; (with_reducible first | replace KB := KB.below hk9 | replace KB := KB.drew.below hk9); clear hk9 x0 x1 x2; obtain ⟨_, x0, x1, x2, _⟩ := KB.head.three)
      | (go_at_call 14; (with_reducible refine (NC.out hm hq _ (by with_reducible first | exact KB.hb | exact KB.drew.hb)).mono ?_); rintro e9 W3 ⟨X, m9, c9, rfl, hS, hk9⟩; (with_reducible first | replace KB := KB.below hk9 | replace KB := KB.drew.below hk9); clear hk9 x0 x1 x2; obtain ⟨_, x0, x1, x2, _⟩ := KB.head.three)
      | (go_at_call 15; (with_reducible refine (DC.out hm hq _ (by with_reducible first | exact KB.hb | exact KB.drew.hb)).mono ?_); rintro e9 W4 ⟨Y, m8, c8, rfl, hT, hk9⟩; (with_reducible first | replace hS := hS.below hk9 | replace hS := (hS.below (Below.refl _ _).drew).below hk9); (with_reducible first | replace KB := KB.below hk9 | replace KB := KB.drew.below hk9); clear hk9 x0 x1 x2; obtain ⟨_, x0, x1, x2, _⟩ := KB.head.three)
      | (go_at_call 13; (with_reducible refine (SC.out _ _ _ _ _ _ _ (by with_reducible first | exact hS | exact hS.below (Below.refl _ _).drew) (by with_reducible first | exact hT | exact hT.below (Below.refl _ _).drew) (by rw [← hS.len]; exact LB.out hm hq)).mono ?_); rintro e9 W5 ⟨rfl, hk9⟩; (with_reducible first | replace KB := KB.below hk9 | replace KB := KB.drew.below hk9); clear hk9 x0 x1 x2; obtain ⟨_, x0, x1, x2, _⟩ := KB.head.three))
  all_goals
    have HB : Below w.heap.size w _ := KB.hb
    go_wp2
    go_ret
    exact ⟨rfl, by with_reducible first | exact HB | exact HB.drew⟩
theorem resolvesL13 (S : Sr) (a b c : Hd) (ze : List Ze) (nm : ByteArray) (w : World) (hv : SrcV w S a b c ze) (hx : S.in64) (hz : ∀ t ∈ allN S, t.size ≤ 140737488355328) (hn : nm.size ≤ maxLen) (T : ErasM w) : Calls Tryz.prog 4 #[.agg #[a.val, b.val, c.val], .string nm] w (RetV w (.bool true)) := by
  have LC := fun W (h : Below w.heap.size w W) => lightDR S a b c ze W (hv.below h)
  have AC := fun W (h : Below w.heap.size w W) => aliveE W (T.mono h)
  have lz : S.zones.length = b.n := by have := hv.zones.len; rw [← hv.all]; simpa using this
  have ll : S.links.length = c.n := by have := hv.links.len; simpa using this
  refine sr_ok a.a b.a c.a a.n a.c b.n b.c c.n c.c nm w (Lib.hid LC) (Lib.hid AC) (namesN S) (((resR S nm).getD 0 : Nat) : Int) (resR S nm).isSome
    (Lib.hid fun h1 h2 W h => resolveE S a b c ze nm hn W (hv.below h) hx (by omega))
    (Lib.hid fun h1 h2 W h => resolveDR S a b c ze W (hv.below h) nm (by omega))
    (Lib.hid fun h1 h2 W h => namesE S a b c ze W (hv.below h) hx (by omega) fun t ht => Nat.le_trans (hz t ht) (by decide))
    (Lib.hid fun h1 h2 W h => namesDR S a b c ze W (hv.below h) (by omega))
    (Lib.hid fun h1 h2 => by have := namesN_le S; omega)
    (Lib.hid fun A B n c m d W h1 h2 h3 => sameR A B n c m d _ W h1 h2 h3)
end Go.Proofs.YtpbgddoicjjhnaaGreatDoor
