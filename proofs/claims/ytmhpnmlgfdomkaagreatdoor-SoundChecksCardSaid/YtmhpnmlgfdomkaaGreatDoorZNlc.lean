/- Stage 13's law SoundChecks. -/
import Derived.Test.YtmhpnmlgfdomkaaGreatDoorZNeg
import Derived.Test.YtmhpnmlgfdomkaaGreatDoorZGne
import Derived.Test.YtmhpnmlgfdomkaaGreatDoorZNal
set_option maxRecDepth 100000
set_option maxHeartbeats 64000000
namespace Go.Proofs.YtmhpnmlgfdomkaaGreatDoor
open Go.RowKit Go.Maps Go.WideShapes
theorem or_hit {α : Type} {a b : Option α} {v : α} (h : a = some v) : a.or b = some v := by rw [h]; rfl
theorem or_on {α : Type} {a b : Option α} (h : a = none) : a.or b = b := by rw [h]; rfl
noncomputable def linksF0 (S : Sr) : Option Fw := (fsR S.links.length (linkF1 S)).or ((fsR S.links.length (linkF2 S)).or (fsR S.links.length (linkF3 S)))
theorem linksDR (S : Sr) (a b c : Hd) (ze : List Ze) (w : World) (hv : SrcV w S a b c ze) (small : c.n ≤ 1000) : Calls Tryz.prog 19 #[.agg #[a.val, b.val, c.val]] w (RetV w ((linksF0 S).getD Fw.zero).val) := by
  have ll : S.links.length = c.n := by have := hv.links.len; simpa using this
  have h1 := fun i v (hi : i < c.n) (h : linkF1 S i = some v) (m : ∀ j, j < i → linkF1 S j = none) => (show (linksF0 S).getD Fw.zero = v from by unfold linksF0; rw [or_hit (fsR_hit (by rw [ll]; exact hi) h m)]; rfl)
  have n1 := fun (m : ∀ j, j < c.n → linkF1 S j = none) => (show fsR S.links.length (linkF1 S) = none from fsR_none.2 (by rw [ll]; exact m))
  have n2 := fun (m : ∀ j, j < c.n → linkF2 S j = none) => (show fsR S.links.length (linkF2 S) = none from fsR_none.2 (by rw [ll]; exact m))
  have n3 := fun (m : ∀ j, j < c.n → linkF3 S j = none) => (show fsR S.links.length (linkF3 S) = none from fsR_none.2 (by rw [ll]; exact m))
  exact links_w S a.a b.a c.a a.n a.c b.n b.c c.n c.c w _ (Lib.hid hv.links) (Lib.hid ll) (Nat.le_trans hv.links.cap hv.links.max)
    (Lib.hid fun s W h => zoneDR S a b c ze W (hv.below h) s) (Lib.hid fun s W h => linkDR S a b c ze W (hv.below h) s) (Lib.hid fun s W h => resolveDR S a b c ze W (hv.below h) s (by omega))
    (Lib.hid h1)
    (Lib.hid fun m1 i v hi h m => by unfold linksF0; rw [or_on (n1 m1), or_hit (fsR_hit (by rw [ll]; exact hi) h m)]; rfl)
    (Lib.hid fun m1 m2 i v hi h m => by unfold linksF0; rw [or_on (n1 m1), or_on (n2 m2), fsR_hit (by rw [ll]; exact hi) h m]; rfl)
    (Lib.hid fun m1 m2 m3 => by unfold linksF0; rw [or_on (n1 m1), or_on (n2 m2), n3 m3]; rfl)
theorem checkO_links (S : Sr) : checkO S = (fsR S.rules.length (ruleF S.rules)).or ((fsR S.rules.length (setF S.rules)).or ((fsR S.zones.length (zoneF S)).or (linksF0 S))) := rfl
theorem checkDR (S : Sr) (a b c : Hd) (ze : List Ze) (w : World) (hv : SrcV w S a b c ze) (hx : S.in64) (s1 : a.n ≤ 60) (s3 : c.n ≤ 1000) : Calls Tryz.prog 7 #[.agg #[a.val, b.val, c.val]] w (RetV w (checkR S).val) := by
  have RC := fun W (h : Below w.heap.size w W) => srcRightDR S a b c ze W (hv.below h) hx
  cases h : okSr S with
  | false =>
    rw [h] at RC
    have e : checkR S = ⟨1, 0, 0, 0⟩ := by unfold checkR; rw [h, if_neg (by decide)]
    rw [e]
    exact check_no a.a b.a c.a a.n a.c b.n b.c c.n c.c w (Lib.hid RC)
  | true =>
    rw [h] at RC
    have ok := ok_of h
    have e : checkR S = (checkO S).getD Fw.zero := by unfold checkR; rw [h, if_pos rfl]
    have lr : S.rules.length = a.n := by have := hv.rules.len; simpa using this
    have lz : ze.length = b.n := by have := hv.zones.len; simpa using this
    have lz2 : S.zones.length = b.n := by rw [← hv.all, List.length_map]; exact lz
    have n1 := fun (m : ∀ j, j < a.n → ruleF S.rules j = none) => (show fsR S.rules.length (ruleF S.rules) = none from fsR_none.2 (by rw [lr]; exact m))
    have n2 := fun (m : ∀ j, j < a.n → setF S.rules j = none) => (show fsR S.rules.length (setF S.rules) = none from fsR_none.2 (by rw [lr]; exact m))
    have n3 := fun (m : ∀ j, j < b.n → zoneF S j = none) => (show fsR S.zones.length (zoneF S) = none from fsR_none.2 (by rw [lz2]; exact m))
    rw [e]
    refine check_w S a.a b.a c.a a.n a.c b.n b.c c.n c.c ze w _ ((linksF0 S).getD Fw.zero) (Lib.hid hv.rules) (Lib.hid hv.zones) (Lib.hid hv.eras) (Lib.hid hv.all) (Lib.hid lr) (Lib.hid lz) (Nat.le_trans hv.rules.cap hv.rules.max) (Nat.le_trans hv.zones.cap hv.zones.max) (Lib.hid RC)
      (Lib.hid fun i x hi => ⟨@decide (firstR S.rules i) (Classical.propDecidable _), @decide_eq_true_iff _ (Classical.propDecidable _), fun W h => firstDR S a b c ze W (hv.below h) i x hi (@decide_eq_true_iff _ (Classical.propDecidable _))⟩)
      (Lib.hid fun s W h => setDR S.rules s a.a b.a c.a a.n a.c b.n b.c c.n c.c W (hv.rules.below h) (by omega))
      (Lib.hid fun s W A' c' hm => setErrDR (setL S.rules s) (setL_fit (rules_fit ok) s) A' _ c' W hm (by have := setL_len S.rules s; omega))
      (Lib.hid fun p hp i x hi W h => eraDR S a b c ze W (hv.below h) ok p hp i x hi)
      (Lib.hid fun W h => linksDR S a b c ze W (hv.below h) s3)
      (Lib.hid fun i v hi h m => by rw [checkO_links, or_hit (fsR_hit (by rw [lr]; exact hi) h m)]; rfl)
      (Lib.hid fun m1 i v hi h m => by rw [checkO_links, or_on (n1 m1), or_hit (fsR_hit (by rw [lr]; exact hi) h m)]; rfl)
      (Lib.hid fun m1 m2 i v hi h m => by rw [checkO_links, or_on (n1 m1), or_on (n2 m2), or_hit (fsR_hit (by rw [lz2]; exact hi) h m)]; rfl)
      (Lib.hid fun m1 m2 m3 => by rw [checkO_links, or_on (n1 m1), or_on (n2 m2), or_on (n3 m3)])
theorem sc_ok (A B C : Option Addr) (n k m d q e : Nat) (w : World) (LC : Hid (∀ W, Below w.heap.size w W → Calls Tryz.prog 4 #[.agg #[.slice A n k, .slice B m d, .slice C q e]] W (RetLi W n m q))) (AC : Hid (∀ W, Below w.heap.size w W → Calls Tryz.prog 5 #[] W (RetV W (.bool true)))) (er kk av ev : Int)
    (CC : Hid (n ≤ 60 → q ≤ 200 → ∀ W, Below w.heap.size w W → Calls Tryz.prog 6 #[.agg #[.slice A n k, .slice B m d, .slice C q e]] W (RetV W (.agg #[.int .i64 er, .int .i64 kk, .int .i64 av, .int .i64 ev]))))
    (DD : Hid (n ≤ 60 → q ≤ 200 → ∀ W, Below w.heap.size w W → Calls Tryz.prog 7 #[.agg #[.slice A n k, .slice B m d, .slice C q e]] W (RetV W (.agg #[.int .i64 er, .int .i64 kk, .int .i64 av, .int .i64 ev])))) : Calls Tryz.prog 3 #[.agg #[.slice A n k, .slice B m d, .slice C q e]] w (RetV w (.bool true)) := by
  go_enter Tryz.func3, Tryz.ntmps3
  go_upto_region 1 with (fail)
  have KB := (BK.nil w).lit [.slice A n k, .slice B m d, .slice C q e] 26
  generalize w.alloc (.cells #[.slice A n k, .slice B m d, .slice C q e] 26) = W at *
  obtain ⟨_, x0, x1, x2, _⟩ := KB.head.three
  go_upto_region 3 with (first | (go_at_call 4; refine (LC.out _ KB.hb).mono ?_; clear LC; rintro e9 W1 ⟨r9, rfl, HL, hk⟩; replace KB := KB.below hk; clear hk x0 x1 x2; obtain ⟨_, x0, x1, x2, _⟩ := KB.head.three; cases r9) | (go_at_call 5; refine (AC.out _ KB.hb).mono ?_; rintro e9 W8 ⟨rfl, hk⟩; replace KB := KB.below hk; clear hk AC x0 x1 x2; obtain ⟨_, x0, x1, x2, _⟩ := KB.head.three))
  · go_ret
    exact ⟨rfl, KB.hb⟩
  obtain ⟨hm, _, hq⟩ : n ≤ 60 ∧ m ≤ 60 ∧ q ≤ 200 := by simpa using HL
  clear HL
  have f1 : (er == er) = true := beq_self_eq_true _
  have f2 : (kk == kk) = true := beq_self_eq_true _
  have f3 : (av == av) = true := beq_self_eq_true _
  have f4 : (ev == ev) = true := beq_self_eq_true _
  go_region_held3 (fun w' => w'.cell? ⟨w.heap.size, 0, none⟩ = some (.slice A n k) ∧ w'.cell? ⟨w.heap.size, 1, none⟩ = some (.slice B m d) ∧ w'.cell? ⟨w.heap.size, 2, none⟩ = some (.slice C q e)) (first | (with_reducible exact ⟨x0, x1, x2⟩) | go_keep)
    (first
      | (go_at_call 5; (with_reducible refine (AC.out _ (by with_reducible first | exact KB.hb | exact KB.drew.hb)).mono ?_); rintro e9 W8 ⟨rfl, hk9⟩; (with_reducible first | replace KB := KB.below hk9 | replace KB := KB.drew.below hk9); clear hk9 x0 x1 x2; obtain ⟨_, x0, x1, x2, _⟩ := KB.head.three)
      | (go_at_call 6; (with_reducible refine (CC.out hm hq _ (by with_reducible first | exact KB.hb | exact KB.drew.hb)).mono ?_); rintro e9 W3 ⟨rfl, hk9⟩; (with_reducible first | replace KB := KB.below hk9 | replace KB := KB.drew.below hk9); clear hk9 x0 x1 x2; obtain ⟨_, x0, x1, x2, _⟩ := KB.head.three)
      | (go_at_call 7; (with_reducible refine (DD.out hm hq _ (by with_reducible first | exact KB.hb | exact KB.drew.hb)).mono ?_); rintro e9 W4 ⟨rfl, hk9⟩; (with_reducible first | replace KB := KB.below hk9 | replace KB := KB.drew.below hk9); clear hk9 x0 x1 x2; obtain ⟨_, x0, x1, x2, _⟩ := KB.head.three))
  all_goals
    have HB : Below w.heap.size w _ := KB.hb
    go_wp2
    go_ret
    exact ⟨rfl, by with_reducible first | exact HB | exact HB.drew | exact below_drewN HB _⟩
theorem checksL13 (S : Sr) (a b c : Hd) (ze : List Ze) (w : World) (hv : SrcV w S a b c ze) (hx : S.in64) (T : ErasM w) : Calls Tryz.prog 3 #[.agg #[a.val, b.val, c.val]] w (RetV w (.bool true)) := by
  have LC := fun W (h : Below w.heap.size w W) => lightDR S a b c ze W (hv.below h)
  have AC := fun W (h : Below w.heap.size w W) => aliveE W (T.mono h)
  exact sc_ok a.a b.a c.a a.n a.c b.n b.c c.n c.c w (Lib.hid LC) (Lib.hid AC) (checkR S).err (checkR S).kind (checkR S).at_ (checkR S).era
    (Lib.hid fun _ _ W h => checkE S a b c ze W (hv.below h) hx (T.mono h))
    (Lib.hid fun h1 h2 W h => checkDR S a b c ze W (hv.below h) hx h1 (by omega))
end Go.Proofs.YtmhpnmlgfdomkaaGreatDoor
