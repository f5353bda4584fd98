/- The document's answer of layer 8: the line of any fields. -/
import Derived.Test.YtnojlbeiknkooaaSbyte
namespace Go.Proofs.Ytnojlbeiknkooaa
open Go.RowKit

/-- a byte that may stand in a field -/
def okB (c : Int) : Bool := decide (32 ≤ c ∧ c ≤ 126 ∧ ¬ c = 34)
def okPre (t : ByteArray) (k : Nat) : Prop := ∀ (j : Nat) (h : j < t.size), j < k → okB t[j].toNat = true
def okText (t : ByteArray) : Prop := okPre t t.size
/-- is it a plain field, as far as its first k bytes tell? -/
def barePre (t : ByteArray) : Nat → Bool
  | 0 => decide (0 < t.size)
  | k + 1 => if h : k < t.size then barePre t k && bareB t[k].toNat else barePre t k
theorem bare_succ {t : ByteArray} {k : Nat} (h : k < t.size) : barePre t (k + 1) = (barePre t k && bareB t[k].toNat) := by
  show (if h : k < t.size then barePre t k && bareB t[k].toNat else barePre t k) = _
  rw [dif_pos h]
def plainT (t : ByteArray) : Bool := barePre t t.size
/-- the line of the first i fields -/
def joinGo (l : List ByteArray) : Nat → ByteArray
  | 0 => ⟨#[]⟩
  | i + 1 => if h : i < l.length then (let s := if 0 < i then joinGo l i ++ ⟨#[32]⟩ else joinGo l i; if plainT l[i] = true then s ++ l[i] else ((s ++ ⟨#[34]⟩) ++ l[i]) ++ ⟨#[34]⟩) else joinGo l i
theorem join_succ {l : List ByteArray} {i : Nat} (h : i < l.length) : joinGo l (i + 1) = (if plainT l[i] = true then (if 0 < i then joinGo l i ++ ⟨#[32]⟩ else joinGo l i) ++ l[i] else (((if 0 < i then joinGo l i ++ ⟨#[32]⟩ else joinGo l i) ++ ⟨#[34]⟩) ++ l[i]) ++ ⟨#[34]⟩) := by
  show (if h : i < l.length then _ else _) = _
  rw [dif_pos h]
def smallTexts (l : List ByteArray) : Prop := l.length ≤ 100 ∧ ∀ (i : Nat) (h : i < l.length), l[i].size ≤ 2000
theorem size_app (a b : ByteArray) : (a ++ b).size = a.size + b.size := ByteArray.size_append
theorem join_size {l : List ByteArray} (hl : smallTexts l) : ∀ i, (joinGo l i).size ≤ 2003 * i := by
  intro i
  induction i with
  | zero => exact Nat.le_refl _
  | succ i ih =>
    by_cases h : i < l.length
    · have hs := hl.2 i h
      rw [join_succ h]
      have e32 : (⟨#[32]⟩ : ByteArray).size = 1 := rfl
      have e34 : (⟨#[34]⟩ : ByteArray).size = 1 := rfl
      split <;> split <;> simp only [size_app, e32, e34] <;> omega
    · show (if h : i < l.length then _ else _ : ByteArray).size ≤ _
      rw [dif_neg h]
      omega
/-- What a call that answers a text and an error's number, and leaves memory alone, leaves. -/
def RetSE (w : World) (s : ByteArray) (n : Int) (e : Ending) (w' : World) : Prop := e = .returned (.tuple #[.string s, .int .i64 n]) ∧ w = w'
def allOk (l : List ByteArray) : Prop := ∀ (i : Nat) (h : i < l.length), okText l[i]
theorem okPre_succ {t : ByteArray} {k : Nat} (h : okPre t k) (hk : k < t.size) (o : okB t[k].toNat = true) : okPre t (k + 1) := by
  intro j hj hlt
  by_cases e : j = k
  · subst e; exact o
  · exact h j hj (by omega)
theorem okB_not {c : Int} (h : okB c = false) : c < 32 ∨ 126 < c ∨ c = 34 := by
  have := of_decide_eq_false h
  omega
theorem okB_yes {c : Int} (h : okB c = true) : ¬ c < 32 ∧ ¬ 126 < c ∧ ¬ c = 34 := by
  have := of_decide_eq_true h
  omega
instance (t : ByteArray) (k : Nat) : Decidable (okPre t k) := Nat.decidableBallLT t.size (fun j h => j < k → okB t[j].toNat = true)
instance (t : ByteArray) : Decidable (okText t) := inferInstanceAs (Decidable (okPre t t.size))
instance (l : List ByteArray) : Decidable (allOk l) := Nat.decidableBallLT l.length (fun i h => okText l[i])
/-- the line of the fields, and its error -/
def joinRes (l : List ByteArray) : ByteArray × Int :=
  if allOk l then (if 16 < l.length ∨ 500 < (joinGo l l.length).size then (⟨#[]⟩, 12) else (joinGo l l.length, 0)) else (⟨#[]⟩, 6)
theorem joinRes_bad {l : List ByteArray} {i k : Nat} (hi : i < l.length) (hk : k < l[i].size) (bad : okB l[i][k].toNat = false) : joinRes l = (⟨#[]⟩, 6) := by
  unfold joinRes
  rw [if_neg]
  intro h
  rw [h i hi k hk hk] at bad
  cases bad
theorem join_app {l : List ByteArray} {i : Nat} (h : i < l.length) : joinGo l (i + 1) = (if plainT l[i] = true then (if 0 < i then joinGo l i ++ ⟨#[32]⟩ else joinGo l i) ++ l[i] else (((if 0 < i then joinGo l i ++ ⟨#[32]⟩ else joinGo l i) ++ ⟨#[34]⟩) ++ l[i]) ++ ⟨#[34]⟩) := join_succ h
theorem gt_dec {a b : Int} (h : a < b) : decide (a < b) = true := decide_eq_true h
theorem gt_decn {a b : Int} (h : ¬ a < b) : decide (a < b) = false := decide_eq_false h
set_option maxRecDepth 100000 in
set_option maxHeartbeats 8000000 in
theorem joinR (A : Option Addr) (n c : Nat) (l : List ByteArray) (w : World) (ha : Ss w A n c l) (hl : smallTexts l) :
    Calls Try.prog 17 #[.slice A n c] w (RetSE w (joinRes l).1 (joinRes l).2) := by
  have JS := Lib.hid (fun i => join_size hl i)
  have n100 : n ≤ 100 := by have := hl.1; have := ha.len; omega
  have LN := Lib.hid ha.len
  have HS := Lib.hid hl.2
  have BADR := Lib.hid (fun i k hi hk bad => @joinRes_bad l i k hi hk bad)
  clear hl
  have CA := Lib.hid ha.cells
  clear ha
  go_enter Try.func17, Try.ntmps17
  go_wp2
  go_loop [4, 5] (fun v4 v5 => ∃ i : Nat, i ≤ n ∧ v5 = .int .i64 i ∧ v4 = .string (joinGo l i) ∧ (∀ (j : Nat) (h : j < l.length), j < i → okText l[j])) (fun _ v5 => n - (intOf v5).toNat)
  case atStart => exact ⟨0, by omega, rfl, rfl, fun _ _ h => absurd h (by omega)⟩
  case round =>
    obtain ⟨i, hi, rfl, rfl, hok⟩ := hrel
    have OK := Lib.hid hok
    clear hok
    by_cases h1 : i < n
    · have il : i < l.length := by rw [LN.out]; exact h1
      obtain ⟨g, o, rfl, _, ca⟩ := CA.out (by omega)
      have cell := ca i il
      clear ca
      have sz := HS.out i il
      have js := JS.out i
      have NX := Lib.hid (join_app il)
      have BR := Lib.hid (fun k hk bad => BADR.out i k il hk bad)
      have OKN := Lib.hid (fun (h : okText l[i]) (j : Nat) (hj : j < l.length) (hlt : j < i + 1) => show okText l[j] from by
        by_cases e : j = i
        · subst e; exact h
        · exact OK.out j hj (by omega))
      generalize ht : l[i] = t at *
      clear ht BADR
      have PT := Lib.hid (show plainT t = barePre t t.size from rfl)
      have P0 := Lib.hid (show barePre t 0 = decide (0 < t.size) from rfl)
      go_wp2_with fail
      go_loop [6, 7] (fun v6 v7 => ∃ k : Nat, k ≤ t.size ∧ v7 = .int .i64 k ∧ v6 = .bool (barePre t k) ∧ okPre t k) (fun _ v7 => t.size - (intOf v7).toNat)
      case atStart => exact ⟨0, by omega, rfl, by rw [P0.out], fun _ _ h => absurd h (by omega)⟩
      case round =>
        obtain ⟨k, hk, rfl, rfl, hp⟩ := hrel
        have HP := Lib.hid hp
        clear hp
        by_cases h2 : k < t.size
        · have BRk := Lib.hid (BR.out k h2)
          have HPn := Lib.hid (fun o => okPre_succ HP.out h2 o)
          have BS := Lib.hid (bare_succ h2)
          have r1 : 0 ≤ (t[k].toNat : Int) := by omega
          have r2 : (t[k].toNat : Int) < 256 := by have := t[k].toNat_lt; omega
          have hw := fun w => bareR (t[k].toNat : Int) w
          generalize hb : (t[k].toNat : Int) = b at *
          clear BR
          cases o : okB b with
          | false =>
            have E := Lib.hid (BRk.out o)
            clear hw BRk HPn HP BS
            rcases okB_not o with g1 | g1 | g1
            · have q1 : decide (b < 32) = true := decide_eq_true g1
              clear o
              go_wp2
              go_ret2
              exact ⟨by rw [E.out]; rfl, rfl⟩
            · have q1 : decide (b < 32) = false := decide_eq_false (by omega)
              have q2 : decide (126 < b) = true := decide_eq_true g1
              clear o
              go_wp2
              go_ret2
              exact ⟨by rw [E.out]; rfl, rfl⟩
            · have q1 : decide (b < 32) = false := decide_eq_false (by omega)
              have q2 : decide (126 < b) = false := decide_eq_false (by omega)
              have q3 : (b == 34) = true := by rw [beq_iff_eq]; exact g1
              clear o
              go_wp2
              go_ret2
              exact ⟨by rw [E.out]; rfl, rfl⟩
          | true =>
            obtain ⟨g1, g2, g3⟩ := okB_yes o
            have q1 : decide (b < 32) = false := decide_eq_false (by omega)
            have q2 : decide (126 < b) = false := decide_eq_false (by omega)
            have q3 : (b == 34) = false := by rw [beq_eq_false_iff_ne]; exact g3
            have HPN := Lib.hid (HPn.out o)
            have BW := Lib.hid hw
            clear o BRk HPn HP hw g3
            cases p : barePre t k with
            | false =>
              have BSn : barePre t (k + 1) = false := by rw [BS.out, p]; rfl
              clear BS p
              go_wp2
              go_round
              case rel => exact ⟨k + 1, by omega, by go_num, by rw [BSn], HPN.out⟩
              case measure => simp [intOf]; omega
            | true =>
              have BSn : barePre t (k + 1) = bareB b := by rw [BS.out, p]; rfl
              clear BS p
              go_wp2_with (go_at_call 23; refine (BW.out _).mono ?_; rintro e w' ⟨rfl, rfl⟩)
              go_round
              case rel => exact ⟨k + 1, by omega, by go_num, by rw [BSn], HPN.out⟩
              case measure => simp [intOf]; omega
        · have hkt : k = t.size := by omega
          subst hkt
          have OKt := Lib.hid (OKN.out HP.out)
          have PTn := PT.out.symm
          rw [PTn]
          clear OKN HP BR hk h2 P0 PT PTn
          cases p : plainT t with
          | true =>
            rw [p] at NX
            by_cases h0 : 0 < i
            · have NN := Lib.hid (NX.out.trans (by rw [if_pos rfl, if_pos h0]))
              clear NX p
              go_wp2
              go_round
              case rel => exact ⟨i + 1, by omega, by go_num, by rw [NN.out], OKt.out⟩
              case measure => simp [intOf]; omega
            · have NN := Lib.hid (NX.out.trans (by rw [if_pos rfl, if_neg h0]))
              clear NX p
              go_wp2
              go_round
              case rel => exact ⟨i + 1, by omega, by go_num, by rw [NN.out], OKt.out⟩
              case measure => simp [intOf]; omega
          | false =>
            rw [p] at NX
            by_cases h0 : 0 < i
            · have NN := Lib.hid (NX.out.trans (by rw [if_neg (by decide), if_pos h0]))
              clear NX p
              go_wp2
              go_round
              case rel => exact ⟨i + 1, by omega, by go_num, by rw [NN.out], OKt.out⟩
              case measure => simp [intOf]; omega
            · have NN := Lib.hid (NX.out.trans (by rw [if_neg (by decide), if_neg h0]))
              clear NX p
              go_wp2
              go_round
              case rel => exact ⟨i + 1, by omega, by go_num, by rw [NN.out], OKt.out⟩
              case measure => simp [intOf]; omega
    · have hin : i = n := by omega
      subst hin
      have AO : allOk l := fun j hj => OK.out j hj (by rw [← LN.out]; exact hj)
      have E : joinRes l = if 16 < i ∨ 500 < (joinGo l i).size then (⟨#[]⟩, 12) else (joinGo l i, 0) := by
        unfold joinRes
        rw [if_pos AO, LN.out]
      have js := JS.out i
      have EE := Lib.hid E
      clear E AO OK BADR
      generalize joinGo l i = u at *
      by_cases c1 : 16 < i
      · have E1 := Lib.hid (EE.out.trans (if_pos (.inl c1)))
        clear EE
        go_wp2
        go_ret2
        exact ⟨by rw [E1.out]; rfl, rfl⟩
      · by_cases c2 : 500 < u.size
        · have E1 := Lib.hid (EE.out.trans (if_pos (.inr c2)))
          clear EE
          go_wp2
          go_ret2
          exact ⟨by rw [E1.out]; rfl, rfl⟩
        · have E1 := Lib.hid (EE.out.trans (if_neg (by omega)))
          clear EE
          go_wp2
          go_ret2
          exact ⟨by rw [E1.out]; rfl, rfl⟩
end Go.Proofs.Ytnojlbeiknkooaa
