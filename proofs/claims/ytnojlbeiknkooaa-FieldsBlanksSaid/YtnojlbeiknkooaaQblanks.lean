/- Stage 8's laws: blanks more, and a remark at the end, turn nothing but places. -/
import Derived.Test.YtnojlbeiknkooaaSalive
import Derived.Test.YtnojlbeiknkooaaSlong
import Derived.Test.YtnojlbeiknkooaaSgaps
import Derived.Laws.DeepStrings4
namespace Go.Proofs.Ytnojlbeiknkooaa
open Go.RowKit

/-- The slice value '.slice A n c' reads as the bytes G. -/
structure Us (w : World) (A : Option Addr) (n : Nat) (G : List Int) : Prop where
  len : G.length = n
  rng : ∀ (j : Nat) (h : j < G.length), 0 ≤ G[j] ∧ G[j] < 256
  cells : 0 < n → ∃ g o, A = some ⟨g, o, none⟩ ∧ g < w.heap.size ∧ ∀ (j : Nat) (h : j < G.length), w.cell? ⟨g, o + j, none⟩ = some (.int .u8 G[j])
theorem Us.below {w w' : World} {A : Option Addr} {n : Nat} {G : List Int} (h : Us w A n G) (hb : Below w.heap.size w w') : Us w' A n G :=
  ⟨h.len, h.rng, fun hn => by
    obtain ⟨g, o, e, hg, hc⟩ := h.cells hn
    exact ⟨g, o, e, Nat.lt_of_lt_of_le hg hb.size, fun j hj => (hb.cell (p := ⟨g, o + j, none⟩) hg).trans (hc j hj)⟩⟩
/-- how many blanks more stand ahead of the i-th field -/
def gapN (G : List Int) (i : Nat) : Int := if h : i < G.length then G[i] % 4 else 0
/-- those blanks -/
def padB (k : Int) : ByteArray := if k = 0 then ⟨#[32]⟩ else if k = 1 then ⟨#[32, 9]⟩ else if k = 2 then ⟨#[32, 9, 32]⟩ else ⟨#[32, 9, 32, 9]⟩
def pads (G : List Int) (i : Nat) : ByteArray := padB (gapN G i)
theorem padB_ok (k : Int) : padOk (padB k) ∧ (padB k).size ≤ 4 := by
  have key : ∀ u : ByteArray, u = ⟨#[32]⟩ ∨ u = ⟨#[32, 9]⟩ ∨ u = ⟨#[32, 9, 32]⟩ ∨ u = ⟨#[32, 9, 32, 9]⟩ → padOk u ∧ u.size ≤ 4 := by
    intro u h
    rcases h with rfl | rfl | rfl | rfl <;> exact ⟨⟨by decide, by decide⟩, by decide⟩
  apply key
  unfold padB
  split
  · exact .inl rfl
  split
  · exact .inr (.inl rfl)
  split
  · exact .inr (.inr (.inl rfl))
  · exact .inr (.inr (.inr rfl))
theorem gapN_in {G : List Int} (i : Nat) : gapN G i = 0 ∨ gapN G i = 1 ∨ gapN G i = 2 ∨ gapN G i = 3 := by
  unfold gapN
  split <;> omega
theorem enc_size (t : ByteArray) : (enc t).size ≤ t.size + 2 := by
  unfold enc
  have z : (⟨#[34]⟩ : ByteArray).size = 1 := rfl
  split
  · omega
  · simp only [size_app, z]; omega
/-- one field alone is joined to what stands for it -/
theorem join_one {t : ByteArray} (ok : okText t) (h : t.size ≤ 20) : joinRes [t] = (enc t, 0) := by
  have a : allOk [t] := by
    intro i hi
    have : i = 0 := by simp at hi; omega
    subst this
    exact ok
  have e : joinGo [t] 1 = enc t := by
    have := join_eq (l := [t]) (i := 0) (by simp)
    rw [this]
    show ⟨#[]⟩ ++ (sepT 0 ++ enc t) = enc t
    rw [nil_append, show sepT 0 = ⟨#[]⟩ from rfl, nil_append]
  unfold joinRes
  rw [if_pos a, show ([t] : List ByteArray).length = 1 from rfl, e, if_neg]
  have := enc_size t
  omega
theorem gap_size {l : List ByteArray} {G : List Int} (h20 : ∀ (i : Nat) (h : i < l.length), l[i].size ≤ 20) : ∀ i, i ≤ l.length → (gapGo l (pads G) i).size ≤ 26 * i := by
  intro i
  induction i with
  | zero => intro _; exact Nat.le_refl _
  | succ i ih =>
    intro hi
    have il : i < l.length := by omega
    have h1 := ih (by omega)
    have h2 := h20 i il
    have h3 := enc_size l[i]
    have h4 := (padB_ok (gapN G i)).2
    rw [gap_eq il]
    simp only [size_app]
    have : (pads G i).size = (padB (gapN G i)).size := rfl
    omega
theorem Ss.part {w : World} {g o n c : Nat} {l : List ByteArray} (ha : Ss w (some ⟨g, o, none⟩) n c l) {k : Nat} (hk : k < l.length) : Ss w (some ⟨g, o + k, none⟩) 1 (c - k) [l[k]] := by
  have hl := ha.len
  have hc := ha.cap
  have hm := ha.max
  refine ⟨rfl, by omega, by omega, fun _ => ?_⟩
  obtain ⟨g', o', e, hg, cs⟩ := ha.cells (by omega)
  obtain ⟨rfl, rfl⟩ : g = g' ∧ o = o' := by simpa using e
  refine ⟨g, o + k, rfl, hg, fun j hj => ?_⟩
  have j0 : j = 0 := by simp at hj; omega
  subst j0
  exact cs k hk
theorem small_one {t : ByteArray} (h : t.size ≤ 20) : smallTexts [t] := by
  refine ⟨by simp, fun j hj => ?_⟩
  have j0 : j = 0 := by simp at hj; omega
  subst j0
  show t.size ≤ 2000
  omega
/-- every text up to the k-th has at most 20 bytes -/
def pre20 (l : List ByteArray) (k : Nat) : Prop := ∀ (i : Nat) (h : i < l.length), i < k → l[i].size ≤ 20
theorem joined_ok {l : List ByteArray} {u : ByteArray} (h : joinRes l = (u, 0)) : allOk l ∧ l.length ≤ 16 ∧ u.size ≤ 500 := by
  unfold joinRes at h
  split at h
  · rename_i ok
    split at h
    · exact absurd (congrArg Prod.snd h) (by show ¬ (12 : Int) = 0; decide)
    · rename_i n12
      cases h
      exact ⟨ok, by omega, by omega⟩
  · exact absurd (congrArg Prod.snd h) (by show ¬ (6 : Int) = 0; decide)
set_option maxRecDepth 100000 in
set_option maxHeartbeats 8000000 in
theorem blanks_long (C : FieldsP) (A B : Option Addr) (n c m d : Nat) (l : List ByteArray) (rem : ByteArray) (w : World) (ha : Ss w A n c l) (hn : n ≤ maxLen) (hz : ∀ (i : Nat) (h : i < l.length), l[i].size ≤ maxLen) (hl : ¬ smallTexts l) :
    Calls Try.prog 7 #[.slice A n c, .slice B m d, .string rem] w (RetV w (.bool true)) := by
  have AL := Lib.hid (alive8 C)
  have LN := Lib.hid (long_yes A n c l w ha hn hz hl)
  clear ha hl C hz
  go_enter Try.func7, Try.ntmps7
  go_wp2_with fail
  refine LN.out.mono ?_
  rintro e w' ⟨rfl, rfl⟩
  go_wp2_with fail
  refine (AL.out _).mono ?_
  rintro e w2 ⟨rfl, hb2⟩
  go_wp2
  go_ret
  exact ⟨rfl, hb2⟩
set_option maxRecDepth 100000 in
set_option maxHeartbeats 8000000 in
theorem blanks_rem (C : FieldsP) (A B : Option Addr) (n c m d : Nat) (l : List ByteArray) (rem : ByteArray) (w : World) (ha : Ss w A n c l) (hl : smallTexts l) (hr : 50 < rem.size) (_hr2 : rem.size ≤ maxLen) :
    Calls Try.prog 7 #[.slice A n c, .slice B m d, .string rem] w (RetV w (.bool true)) := by
  have AL := Lib.hid (alive8 C)
  have LN := Lib.hid (long_no A n c l w ha hl)
  have g1 : decide ((50 : Int) < rem.size) = true := decide_eq_true (by omega)
  clear ha hl C
  go_enter Try.func7, Try.ntmps7
  go_wp2_with fail
  refine LN.out.mono ?_
  rintro e w' ⟨rfl, rfl⟩
  go_wp2_with fail
  refine (AL.out _).mono ?_
  rintro e w2 ⟨rfl, hb2⟩
  go_wp2
  go_ret
  exact ⟨rfl, hb2⟩
set_option maxRecDepth 100000 in
set_option maxHeartbeats 16000000 in
theorem blanks_core (C : FieldsP) (A B : Option Addr) (n c m d : Nat) (l : List ByteArray) (G : List Int) (rem : ByteArray) (w : World) (ha : Ss w A n c l) (hu : Us w B m G) (hl : smallTexts l) (hr : ¬ 50 < rem.size) :
    Calls Try.prog 7 #[.slice A n c, .slice B m d, .string rem] w (RetV w (.bool true)) := by
  have AL := Lib.hid (alive8 C)
  have LN := Lib.hid (long_no A n c l w ha hl)
  have g1 : decide ((50 : Int) < rem.size) = false := decide_eq_false (by omega)
  have JN := Lib.hid (fun (W : World) (h : Ss W A n c l) => C.join A n c l W h hl)
  have n100 : n ≤ 100 := by have := hl.1; have := ha.len; omega
  have LL := Lib.hid ha.len
  have HS := Lib.hid hl.2
  clear hl
  go_enter Try.func7, Try.ntmps7
  go_wp2_with fail
  refine LN.out.mono ?_
  rintro e w' ⟨rfl, rfl⟩
  go_wp2_with fail
  clear g1 LN
  go_loop [7] (fun v => ∃ i : Nat, i ≤ n ∧ v = .int .i64 i ∧ pre20 l i) (fun v => n - (intOf v).toNat)
  case atStart => exact ⟨0, by omega, rfl, fun _ _ h => absurd h (by omega)⟩
  case round =>
    obtain ⟨i, hi, rfl, hp⟩ := hrel
    have HP := Lib.hid hp
    clear hp
    by_cases h1 : i < n
    · have il : i < l.length := by rw [LL.out]; exact h1
      obtain ⟨g, o, rfl, _, ca⟩ := ha.cells (by omega)
      have cell := ca i il
      clear ca
      have sz := HS.out i il
      have NP := Lib.hid (fun (h : l[i].size ≤ 20) => show pre20 l (i + 1) from fun j hj hlt => by
        by_cases e : j = i
        · subst e; exact h
        · exact HP.out j hj (by omega))
      generalize l[i] = t at *
      by_cases h2 : 20 < t.size
      · go_wp2_with fail
        refine (AL.out _).mono ?_
        rintro e w2 ⟨rfl, hb2⟩
        go_wp2
        go_ret
        exact ⟨rfl, hb2⟩
      · have NN := Lib.hid (NP.out (by omega))
        go_wp2
        go_round
        case rel => exact ⟨i + 1, by omega, by go_num, NN.out⟩
        case measure => simp [intOf]; omega
    · have hin : i = n := by omega
      subst hin
      have H20 : Hid (∀ (j : Nat) (h : j < l.length), l[j].size ≤ 20) := Lib.hid fun j h => HP.out j h (by have := LL.out; omega)
      clear HP HS
      go_wp2_with fail
      refine (JN.out _ ha).mono ?_
      generalize hj : joinRes l = r
      have HJ := Lib.hid hj
      clear hj
      obtain ⟨u, q⟩ := r
      rintro e w1 ⟨rfl, hb1⟩
      clear JN
      by_cases hq : q = 0
      case neg =>
        have q1 : (q != 0) = true := by rw [bne_iff_ne]; exact hq
        go_wp2_with fail
        refine (AL.out _).mono ?_
        rintro e w2 ⟨rfl, hb2⟩
        go_wp2
        go_ret
        exact ⟨rfl, hb1.trans (hb2.mono hb1.size)⟩
      subst hq
      by_cases n10 : 10 < i
      case pos =>
        have q2 : decide ((10 : Int) < i) = true := decide_eq_true (by omega)
        go_wp2_with fail
        refine (AL.out _).mono ?_
        rintro e w2 ⟨rfl, hb2⟩
        go_wp2
        go_ret
        exact ⟨rfl, hb1.trans (hb2.mono hb1.size)⟩
      have q2 : decide ((10 : Int) < i) = false := decide_eq_false (by omega)
      go_wp2_with fail
      have OK := Lib.hid (joined_ok HJ.out)
      have BK := Lib.hid (back HJ.out)
      have ha1 := ha.below hb1
      have hu1 := hu.below hb1
      clear q2 HJ ha hu
      go_loopw [10, 11] (fun t v wr => ∃ k : Nat, k ≤ i ∧ v = .int .i64 k ∧ t = .string (gapGo l (pads G) k) ∧ Below w1.heap.size w1 wr) (fun _ v _ => i - (intOf v).toNat)
      case atStart => exact ⟨0, by omega, rfl, rfl, Below.refl _ _⟩
      case round =>
        obtain ⟨k, hk, rfl, rfl, hbel⟩ := hrel
        by_cases h1 : k < i
        · have kl : k < l.length := by rw [LL.out]; exact h1
          have tsz := gap_size (G := G) H20.out k (by omega)
          have ysz : (enc l[k]).size ≤ 22 := by have := enc_size l[k]; have := H20.out k kl; omega
          have GE := Lib.hid (gap_eq (pads := pads G) kl)
          obtain ⟨g, o, rfl, hg, _⟩ := (ha1.below hbel).cells (by omega)
          have J1 := Lib.hid (C.join _ _ _ _ _ ((ha1.below hbel).part kl) (small_one (H20.out k kl)))
          rw [join_one (OK.out.1 k kl) (H20.out k kl)] at J1
          have kc : (k : Int) + 1 ≤ (c : Int) := by have := ha1.cap; omega
          have cm := ha1.max
          unfold maxLen at cm
          have GB : Hid (pads G k = padB (gapN G k)) := Lib.hid rfl
          generalize gapGo l (pads G) k = t at *
          generalize enc l[k] = y at *
          by_cases km : k < m
          · have kG : k < G.length := by rw [hu1.len]; exact km
            obtain ⟨g', o', rfl, _, cb⟩ := (hu1.below hbel).cells (by omega)
            have cell := cb k kG
            clear cb
            obtain ⟨x0, x1⟩ := hu1.rng k kG
            have xe : G[k] % 4 = gapN G k := by unfold gapN; rw [dif_pos kG]
            have hz := gapN_in (G := G) k
            generalize gapN G k = z at *
            generalize G[k] = x at *
            rcases hz with rfl | rfl | rfl | rfl
            all_goals
              rw [GB.out] at GE
              go_wp2_with fail
              refine J1.out.mono ?_
              rintro e w3 ⟨rfl, hb3⟩
              go_wp2
              go_roundw
              case rel => exact ⟨k + 1, by omega, by go_num, by rw [GE.out]; exact congrArg Value.string (ByteArray.append_assoc ..), hbel.trans (hb3.mono hbel.size)⟩
              case measure => simp [intOf]; omega
          · have z0 : gapN G k = 0 := by unfold gapN; rw [dif_neg (by rw [hu1.len]; exact km)]
            rw [GB.out, z0] at GE
            clear z0
            go_wp2_with fail
            refine J1.out.mono ?_
            rintro e w3 ⟨rfl, hb3⟩
            go_wp2
            go_roundw
            case rel => exact ⟨k + 1, by omega, by go_num, by rw [GE.out]; exact congrArg Value.string (ByteArray.append_assoc ..), hbel.trans (hb3.mono hbel.size)⟩
            case measure => simp [intOf]; omega
        · have hki : k = i := by omega
          subst hki
          have ll : l.length = k := LL.out
          have tsz := gap_size (G := G) H20.out k (by omega)
          have ge : gapped l (pads G) rem = gapGo l (pads G) k ++ ⟨#[32, 35]⟩ ++ rem := by unfold gapped; rw [ll]
          have g500 : (gapped l (pads G) rem).size ≤ 500 := by
            rw [ge]
            have z : (⟨#[32, 35]⟩ : ByteArray).size = 2 := rfl
            simp only [size_app, z]
            omega
          obtain ⟨ws, hw, hm⟩ := BK.out
          obtain ⟨rs, hs, hq⟩ := gaps (pads := pads G) (rem := rem) (fun i => (padB_ok _).1) OK.out.1 OK.out.2.1 g500
          have SP := Lib.hid (fun W => (C.split u (by have := OK.out.2.2; unfold maxLen; omega) ws hw W : Calls Try.prog 12 #[.string u] W (RetFld W (ws, 0, 0))))
          have SR := Lib.hid (fun W => (ge ▸ C.split (gapped l (pads G) rem) (by unfold maxLen; omega) rs hs W : Calls Try.prog 12 #[.string (gapGo l (pads G) k ++ ⟨#[32, 35]⟩ ++ rem)] W (RetFld W (rs, 0, 0))))
          have lm : ws.length = k := by have := congrArg List.length hm; rw [List.length_map, ll] at this; exact this
          have lr : rs.length = k := by have := congrArg List.length hq; rw [List.length_map, ll] at this; exact this
          have EQ := Lib.hid (fun (j : Nat) (h : j < ws.length) (h2 : j < rs.length) => show ws[j].1 = rs[j].1 by
            have e := hm.trans hq.symm
            have e2 := congrArg (fun z => z[j]?) e
            simpa [h, h2] using e2)
          have h01 : Below w.heap.size w wr := hb1.trans (hbel.mono hb1.size)
          clear hw hm hs hq BK OK C ge g500 hu1 ha1 H20 LL ll
          generalize gapGo l (pads G) k = t at *
          go_wp2_with fail
          refine (SP.out _).mono ?_
          rintro e w3 ⟨E1, m1, d1, rfl, hB, hb3⟩
          obtain rfl : m1 = k := (hB.len.symm.trans lm)
          have s01 := h01.size
          have h03 : Below w.heap.size w w3 := h01.trans (hb3.mono s01)
          clear SP hb3 h01 s01
          go_wp2_with fail
          refine (SR.out _).mono ?_
          rintro e w4 ⟨E2, m2, d2, rfl, hR, hb4⟩
          obtain rfl : m2 = m1 := (hR.len.symm.trans lr)
          have hB4 := hB.below hb4
          have s03 := h03.size
          have h04 : Below w.heap.size w w4 := h03.trans (hb4.mono s03)
          clear SR hB hb4 h03 s03
          go_wp2_with fail
          go_loopw [21] (fun i wr => ∃ k : Nat, k ≤ m2 ∧ i = .int .i64 k ∧ Below w4.heap.size w4 wr) (fun i _ => m2 - (intOf i).toNat)
          case atStart => exact ⟨0, by omega, rfl, Below.refl _ _⟩
          case round =>
            obtain ⟨k, hk, rfl, hbel⟩ := hrel
            by_cases h1 : k < m2
            · have kl : k < ws.length := by omega
              have kr : k < rs.length := by omega
              obtain ⟨g, o, rfl, _, ca⟩ := (hB4.below hbel).cells (by omega)
              obtain ⟨g', o', rfl, _, cb⟩ := (hR.below hbel).cells (by omega)
              have xa := (ca k kl).1
              have xb := (cb k kr).1
              rw [EQ.out k kl kr] at xa
              rw [Nat.mul_comm 2 k] at xa xb
              clear ca cb
              generalize rs[k].1 = y at *
              go_wp2_with fail
              go_region
              all_goals
                go_wp2
                go_roundw
                case rel => exact ⟨k + 1, by omega, int_eqS (by omega), (below_drewN hbel _)⟩
                case measure => simp only [intOf]; omega
            · have hkm : k = m2 := by omega
              have s04 := h04.size
              have sb := hbel.size
              go_wp2_with fail
              refine (AL.out _).mono ?_
              rintro e w5 ⟨rfl, hb5⟩
              go_wp2
              go_ret
              exact ⟨rfl, h04.trans ((hbel.mono s04).trans (hb5.mono (by omega)))⟩
theorem blanksL (C : FieldsP) (A : Option Addr) (n c : Nat) (l : List ByteArray) (B : Option Addr) (m d : Nat) (G : List Int) (rem : ByteArray) (w : World) (ha : Ss w A n c l) (hn : n ≤ maxLen) (hz : ∀ (i : Nat) (h : i < l.length), l[i].size ≤ maxLen) (hu : Us w B m G) (hr : rem.size ≤ maxLen) :
    Calls Try.prog 7 #[.slice A n c, .slice B m d, .string rem] w (RetV w (.bool true)) := by
  by_cases hl : smallTexts l
  · by_cases h50 : 50 < rem.size
    · exact blanks_rem C A B n c m d l rem w ha hl h50 hr
    · exact blanks_core C A B n c m d l G rem w ha hu hl h50
  · exact blanks_long C A B n c m d l rem w ha hn hz hl
end Go.Proofs.Ytnojlbeiknkooaa
