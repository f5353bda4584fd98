import Derived.Test.YtmhpnmlgfdomkaaGreatDoorZGu
import Derived.Test.YtmhpnmlgfdomkaaGreatDoorZGsix
import Derived.Deep.RegionHeld3
import Derived.Outline
import Derived.Test.YtmhpnmlgfdomkaaGreatDoorZGhs
import Derived.Test.YtmhpnmlgfdomkaaGreatDoorZUdig
set_option maxRecDepth 100000
set_option maxHeartbeats 64000000
namespace Go.Proofs.YtmhpnmlgfdomkaaGreatDoor
open Go.RowKit
def Sp.ok (x : Sp) : Prop := (1 ≤ x.mo ∧ x.mo ≤ 12) ∧ (0 ≤ x.ki ∧ x.ki ≤ 3) ∧ (-604799 ≤ x.ti ∧ x.ti ≤ 604799) ∧ (0 ≤ x.re ∧ x.re ≤ 2) ∧ (x.ki = 0 → x.wd = 0) ∧ (x.ki ≠ 0 → 1 ≤ x.wd ∧ x.wd ≤ 7) ∧ (x.ki = 1 → x.da = 0) ∧ (x.ki ≠ 1 → 1 ≤ x.da ∧ x.da ≤ 31)
instance (x : Sp) : Decidable x.ok := by unfold Sp.ok; infer_instance
theorem sr_0 (mo ki wd da ti re : Int) (h0 : mo < 1) (w : World) :
    Calls Tryz.prog 61 #[.agg #[.int .i64 (mo), .int .i64 (ki), .int .i64 (wd), .int .i64 (da), .int .i64 (ti), .int .i64 (re)]] w (RetV w (.bool false)) := by
  have f0 : decide (mo < 1) = true := decide_eq_true h0
  clear h0
  go_enter Tryz.func61, Tryz.ntmps61
  go_upto_region 1 with (fail)
  have KB := ((BK.nil w).more6 (.int .i64 (mo)) (.int .i64 (ki)) (.int .i64 (wd)) (.int .i64 (da)) (.int .i64 (ti)) (.int .i64 (re)) 34)
  generalize (w.alloc (.cells #[.int .i64 (mo), .int .i64 (ki), .int .i64 (wd), .int .i64 (da), .int .i64 (ti), .int .i64 (re)] 34)) = w0 at *
  obtain ⟨_, qa, qb, qc, qd, qe, qf, _⟩ := (KB.head).six
  have HB := KB.hb
  go_wp2
  go_ret
  exact ⟨rfl, HB⟩
theorem sr_1 (mo ki wd da ti re : Int) (h0 : ¬ mo < 1) (h1 : 12 < mo) (w : World) :
    Calls Tryz.prog 61 #[.agg #[.int .i64 (mo), .int .i64 (ki), .int .i64 (wd), .int .i64 (da), .int .i64 (ti), .int .i64 (re)]] w (RetV w (.bool false)) := by
  have f0 : decide (mo < 1) = false := decide_eq_false h0
  have f1 : decide (12 < mo) = true := decide_eq_true h1
  clear h0 h1
  go_enter Tryz.func61, Tryz.ntmps61
  go_upto_region 1 with (fail)
  have KB := ((BK.nil w).more6 (.int .i64 (mo)) (.int .i64 (ki)) (.int .i64 (wd)) (.int .i64 (da)) (.int .i64 (ti)) (.int .i64 (re)) 34)
  generalize (w.alloc (.cells #[.int .i64 (mo), .int .i64 (ki), .int .i64 (wd), .int .i64 (da), .int .i64 (ti), .int .i64 (re)] 34)) = w0 at *
  obtain ⟨_, qa, qb, qc, qd, qe, qf, _⟩ := (KB.head).six
  have HB := KB.hb
  go_wp2
  go_ret
  exact ⟨rfl, HB⟩
theorem sr_2 (mo ki wd da ti re : Int) (h0 : ¬ mo < 1) (h1 : ¬ 12 < mo) (h2 : ki < 0) (w : World) :
    Calls Tryz.prog 61 #[.agg #[.int .i64 (mo), .int .i64 (ki), .int .i64 (wd), .int .i64 (da), .int .i64 (ti), .int .i64 (re)]] w (RetV w (.bool false)) := by
  have f0 : decide (mo < 1) = false := decide_eq_false h0
  have f1 : decide (12 < mo) = false := decide_eq_false h1
  have f2 : decide (ki < 0) = true := decide_eq_true h2
  clear h0 h1 h2
  go_enter Tryz.func61, Tryz.ntmps61
  go_upto_region 1 with (fail)
  have KB := ((BK.nil w).more6 (.int .i64 (mo)) (.int .i64 (ki)) (.int .i64 (wd)) (.int .i64 (da)) (.int .i64 (ti)) (.int .i64 (re)) 34)
  generalize (w.alloc (.cells #[.int .i64 (mo), .int .i64 (ki), .int .i64 (wd), .int .i64 (da), .int .i64 (ti), .int .i64 (re)] 34)) = w0 at *
  obtain ⟨_, qa, qb, qc, qd, qe, qf, _⟩ := (KB.head).six
  have HB := KB.hb
  go_wp2
  go_ret
  exact ⟨rfl, HB⟩
theorem sr_3 (mo ki wd da ti re : Int) (h0 : ¬ mo < 1) (h1 : ¬ 12 < mo) (h2 : ¬ ki < 0) (h3 : 3 < ki) (w : World) :
    Calls Tryz.prog 61 #[.agg #[.int .i64 (mo), .int .i64 (ki), .int .i64 (wd), .int .i64 (da), .int .i64 (ti), .int .i64 (re)]] w (RetV w (.bool false)) := by
  have f0 : decide (mo < 1) = false := decide_eq_false h0
  have f1 : decide (12 < mo) = false := decide_eq_false h1
  have f2 : decide (ki < 0) = false := decide_eq_false h2
  have f3 : decide (3 < ki) = true := decide_eq_true h3
  clear h0 h1 h2 h3
  go_enter Tryz.func61, Tryz.ntmps61
  go_upto_region 1 with (fail)
  have KB := ((BK.nil w).more6 (.int .i64 (mo)) (.int .i64 (ki)) (.int .i64 (wd)) (.int .i64 (da)) (.int .i64 (ti)) (.int .i64 (re)) 34)
  generalize (w.alloc (.cells #[.int .i64 (mo), .int .i64 (ki), .int .i64 (wd), .int .i64 (da), .int .i64 (ti), .int .i64 (re)] 34)) = w0 at *
  obtain ⟨_, qa, qb, qc, qd, qe, qf, _⟩ := (KB.head).six
  have HB := KB.hb
  go_wp2
  go_ret
  exact ⟨rfl, HB⟩
theorem sr_4 (mo ki wd da ti re : Int) (h0 : ¬ mo < 1) (h1 : ¬ 12 < mo) (h2 : ¬ ki < 0) (h3 : ¬ 3 < ki) (h4 : ti < -604799) (w : World) :
    Calls Tryz.prog 61 #[.agg #[.int .i64 (mo), .int .i64 (ki), .int .i64 (wd), .int .i64 (da), .int .i64 (ti), .int .i64 (re)]] w (RetV w (.bool false)) := by
  have f0 : decide (mo < 1) = false := decide_eq_false h0
  have f1 : decide (12 < mo) = false := decide_eq_false h1
  have f2 : decide (ki < 0) = false := decide_eq_false h2
  have f3 : decide (3 < ki) = false := decide_eq_false h3
  have f4 : decide (ti < -604799) = true := decide_eq_true h4
  clear h0 h1 h2 h3 h4
  go_enter Tryz.func61, Tryz.ntmps61
  go_upto_region 1 with (fail)
  have KB := ((BK.nil w).more6 (.int .i64 (mo)) (.int .i64 (ki)) (.int .i64 (wd)) (.int .i64 (da)) (.int .i64 (ti)) (.int .i64 (re)) 34)
  generalize (w.alloc (.cells #[.int .i64 (mo), .int .i64 (ki), .int .i64 (wd), .int .i64 (da), .int .i64 (ti), .int .i64 (re)] 34)) = w0 at *
  obtain ⟨_, qa, qb, qc, qd, qe, qf, _⟩ := (KB.head).six
  have HB := KB.hb
  go_wp2
  go_ret
  exact ⟨rfl, HB⟩
theorem sr_5 (mo ki wd da ti re : Int) (h0 : ¬ mo < 1) (h1 : ¬ 12 < mo) (h2 : ¬ ki < 0) (h3 : ¬ 3 < ki) (h4 : ¬ ti < -604799) (h5 : 604799 < ti) (w : World) :
    Calls Tryz.prog 61 #[.agg #[.int .i64 (mo), .int .i64 (ki), .int .i64 (wd), .int .i64 (da), .int .i64 (ti), .int .i64 (re)]] w (RetV w (.bool false)) := by
  have f0 : decide (mo < 1) = false := decide_eq_false h0
  have f1 : decide (12 < mo) = false := decide_eq_false h1
  have f2 : decide (ki < 0) = false := decide_eq_false h2
  have f3 : decide (3 < ki) = false := decide_eq_false h3
  have f4 : decide (ti < -604799) = false := decide_eq_false h4
  have f5 : decide (604799 < ti) = true := decide_eq_true h5
  clear h0 h1 h2 h3 h4 h5
  go_enter Tryz.func61, Tryz.ntmps61
  go_upto_region 1 with (fail)
  have KB := ((BK.nil w).more6 (.int .i64 (mo)) (.int .i64 (ki)) (.int .i64 (wd)) (.int .i64 (da)) (.int .i64 (ti)) (.int .i64 (re)) 34)
  generalize (w.alloc (.cells #[.int .i64 (mo), .int .i64 (ki), .int .i64 (wd), .int .i64 (da), .int .i64 (ti), .int .i64 (re)] 34)) = w0 at *
  obtain ⟨_, qa, qb, qc, qd, qe, qf, _⟩ := (KB.head).six
  have HB := KB.hb
  go_wp2
  go_ret
  exact ⟨rfl, HB⟩
theorem sr_6 (mo ki wd da ti re : Int) (h0 : ¬ mo < 1) (h1 : ¬ 12 < mo) (h2 : ¬ ki < 0) (h3 : ¬ 3 < ki) (h4 : ¬ ti < -604799) (h5 : ¬ 604799 < ti) (h6 : re < 0) (w : World) :
    Calls Tryz.prog 61 #[.agg #[.int .i64 (mo), .int .i64 (ki), .int .i64 (wd), .int .i64 (da), .int .i64 (ti), .int .i64 (re)]] w (RetV w (.bool false)) := by
  have f0 : decide (mo < 1) = false := decide_eq_false h0
  have f1 : decide (12 < mo) = false := decide_eq_false h1
  have f2 : decide (ki < 0) = false := decide_eq_false h2
  have f3 : decide (3 < ki) = false := decide_eq_false h3
  have f4 : decide (ti < -604799) = false := decide_eq_false h4
  have f5 : decide (604799 < ti) = false := decide_eq_false h5
  have f6 : decide (re < 0) = true := decide_eq_true h6
  clear h0 h1 h2 h3 h4 h5 h6
  go_enter Tryz.func61, Tryz.ntmps61
  go_upto_region 1 with (fail)
  have KB := ((BK.nil w).more6 (.int .i64 (mo)) (.int .i64 (ki)) (.int .i64 (wd)) (.int .i64 (da)) (.int .i64 (ti)) (.int .i64 (re)) 34)
  generalize (w.alloc (.cells #[.int .i64 (mo), .int .i64 (ki), .int .i64 (wd), .int .i64 (da), .int .i64 (ti), .int .i64 (re)] 34)) = w0 at *
  obtain ⟨_, qa, qb, qc, qd, qe, qf, _⟩ := (KB.head).six
  have HB := KB.hb
  go_wp2
  go_ret
  exact ⟨rfl, HB⟩
theorem sr_7 (mo ki wd da ti re : Int) (h0 : ¬ mo < 1) (h1 : ¬ 12 < mo) (h2 : ¬ ki < 0) (h3 : ¬ 3 < ki) (h4 : ¬ ti < -604799) (h5 : ¬ 604799 < ti) (h6 : ¬ re < 0) (h7 : 2 < re) (w : World) :
    Calls Tryz.prog 61 #[.agg #[.int .i64 (mo), .int .i64 (ki), .int .i64 (wd), .int .i64 (da), .int .i64 (ti), .int .i64 (re)]] w (RetV w (.bool false)) := by
  have f0 : decide (mo < 1) = false := decide_eq_false h0
  have f1 : decide (12 < mo) = false := decide_eq_false h1
  have f2 : decide (ki < 0) = false := decide_eq_false h2
  have f3 : decide (3 < ki) = false := decide_eq_false h3
  have f4 : decide (ti < -604799) = false := decide_eq_false h4
  have f5 : decide (604799 < ti) = false := decide_eq_false h5
  have f6 : decide (re < 0) = false := decide_eq_false h6
  have f7 : decide (2 < re) = true := decide_eq_true h7
  clear h0 h1 h2 h3 h4 h5 h6 h7
  go_enter Tryz.func61, Tryz.ntmps61
  go_upto_region 1 with (fail)
  have KB := ((BK.nil w).more6 (.int .i64 (mo)) (.int .i64 (ki)) (.int .i64 (wd)) (.int .i64 (da)) (.int .i64 (ti)) (.int .i64 (re)) 34)
  generalize (w.alloc (.cells #[.int .i64 (mo), .int .i64 (ki), .int .i64 (wd), .int .i64 (da), .int .i64 (ti), .int .i64 (re)] 34)) = w0 at *
  obtain ⟨_, qa, qb, qc, qd, qe, qf, _⟩ := (KB.head).six
  have HB := KB.hb
  go_wp2
  go_ret
  exact ⟨rfl, HB⟩
theorem sr_a (mo ki wd da ti re : Int) (h0 : ¬ mo < 1) (h1 : ¬ 12 < mo) (h2 : ¬ ki < 0) (h3 : ¬ 3 < ki) (h4 : ¬ ti < -604799) (h5 : ¬ 604799 < ti) (h6 : ¬ re < 0) (h7 : ¬ 2 < re) (h8 : ki = 0) (h9 : ¬ wd = 0) (w : World) :
    Calls Tryz.prog 61 #[.agg #[.int .i64 (mo), .int .i64 (ki), .int .i64 (wd), .int .i64 (da), .int .i64 (ti), .int .i64 (re)]] w (RetV w (.bool false)) := by
  have f0 : decide (mo < 1) = false := decide_eq_false h0
  have f1 : decide (12 < mo) = false := decide_eq_false h1
  have f2 : decide (ki < 0) = false := decide_eq_false h2
  have f3 : decide (3 < ki) = false := decide_eq_false h3
  have f4 : decide (ti < -604799) = false := decide_eq_false h4
  have f5 : decide (604799 < ti) = false := decide_eq_false h5
  have f6 : decide (re < 0) = false := decide_eq_false h6
  have f7 : decide (2 < re) = false := decide_eq_false h7
  have f8 : (ki == 0) = true := by rw [beq_iff_eq]; exact h8
  have g8 : (ki != 0) = false := by rw [bne_eq_false_iff_eq]; exact h8
  have f9 : (wd == 0) = false := beq_eq_false_iff_ne.2 h9
  have g9 : (wd != 0) = true := bne_iff_ne.2 h9
  clear h0 h1 h2 h3 h4 h5 h6 h7 h8 h9
  go_enter Tryz.func61, Tryz.ntmps61
  go_upto_region 1 with (fail)
  have KB := ((BK.nil w).more6 (.int .i64 (mo)) (.int .i64 (ki)) (.int .i64 (wd)) (.int .i64 (da)) (.int .i64 (ti)) (.int .i64 (re)) 34)
  generalize (w.alloc (.cells #[.int .i64 (mo), .int .i64 (ki), .int .i64 (wd), .int .i64 (da), .int .i64 (ti), .int .i64 (re)] 34)) = w0 at *
  obtain ⟨_, qa, qb, qc, qd, qe, qf, _⟩ := (KB.head).six
  have HB := KB.hb
  go_wp2
  go_ret
  exact ⟨rfl, HB⟩
theorem sr_b1 (mo ki wd da ti re : Int) (h0 : ¬ mo < 1) (h1 : ¬ 12 < mo) (h2 : ¬ ki < 0) (h3 : ¬ 3 < ki) (h4 : ¬ ti < -604799) (h5 : ¬ 604799 < ti) (h6 : ¬ re < 0) (h7 : ¬ 2 < re) (h8 : ki = 0) (h9 : wd = 0) (h10 : ¬ ki = 1) (h11 : ¬ 1 ≤ da) (w : World) :
    Calls Tryz.prog 61 #[.agg #[.int .i64 (mo), .int .i64 (ki), .int .i64 (wd), .int .i64 (da), .int .i64 (ti), .int .i64 (re)]] w (RetV w (.bool false)) := by
  have f0 : decide (mo < 1) = false := decide_eq_false h0
  have f1 : decide (12 < mo) = false := decide_eq_false h1
  have f2 : decide (ki < 0) = false := decide_eq_false h2
  have f3 : decide (3 < ki) = false := decide_eq_false h3
  have f4 : decide (ti < -604799) = false := decide_eq_false h4
  have f5 : decide (604799 < ti) = false := decide_eq_false h5
  have f6 : decide (re < 0) = false := decide_eq_false h6
  have f7 : decide (2 < re) = false := decide_eq_false h7
  have f8 : (ki == 0) = true := by rw [beq_iff_eq]; exact h8
  have g8 : (ki != 0) = false := by rw [bne_eq_false_iff_eq]; exact h8
  have f9 : (wd == 0) = true := by rw [beq_iff_eq]; exact h9
  have g9 : (wd != 0) = false := by rw [bne_eq_false_iff_eq]; exact h9
  have f10 : (ki == 1) = false := beq_eq_false_iff_ne.2 h10
  have g10 : (ki != 1) = true := bne_iff_ne.2 h10
  have f11 : decide (1 ≤ da) = false := decide_eq_false h11
  clear h0 h1 h2 h3 h4 h5 h6 h7 h8 h9 h10 h11
  go_enter Tryz.func61, Tryz.ntmps61
  go_upto_region 1 with (fail)
  have KB := ((BK.nil w).more6 (.int .i64 (mo)) (.int .i64 (ki)) (.int .i64 (wd)) (.int .i64 (da)) (.int .i64 (ti)) (.int .i64 (re)) 34)
  generalize (w.alloc (.cells #[.int .i64 (mo), .int .i64 (ki), .int .i64 (wd), .int .i64 (da), .int .i64 (ti), .int .i64 (re)] 34)) = w0 at *
  obtain ⟨_, qa, qb, qc, qd, qe, qf, _⟩ := (KB.head).six
  have HB := KB.hb
  go_wp2
  go_ret
  exact ⟨rfl, HB⟩
theorem sr_b2 (mo ki wd da ti re : Int) (h0 : ¬ mo < 1) (h1 : ¬ 12 < mo) (h2 : ¬ ki < 0) (h3 : ¬ 3 < ki) (h4 : ¬ ti < -604799) (h5 : ¬ 604799 < ti) (h6 : ¬ re < 0) (h7 : ¬ 2 < re) (h8 : ki = 0) (h9 : wd = 0) (h10 : ¬ ki = 1) (h11 : 1 ≤ da) (h12 : ¬ da ≤ 31) (w : World) :
    Calls Tryz.prog 61 #[.agg #[.int .i64 (mo), .int .i64 (ki), .int .i64 (wd), .int .i64 (da), .int .i64 (ti), .int .i64 (re)]] w (RetV w (.bool false)) := by
  have f0 : decide (mo < 1) = false := decide_eq_false h0
  have f1 : decide (12 < mo) = false := decide_eq_false h1
  have f2 : decide (ki < 0) = false := decide_eq_false h2
  have f3 : decide (3 < ki) = false := decide_eq_false h3
  have f4 : decide (ti < -604799) = false := decide_eq_false h4
  have f5 : decide (604799 < ti) = false := decide_eq_false h5
  have f6 : decide (re < 0) = false := decide_eq_false h6
  have f7 : decide (2 < re) = false := decide_eq_false h7
  have f8 : (ki == 0) = true := by rw [beq_iff_eq]; exact h8
  have g8 : (ki != 0) = false := by rw [bne_eq_false_iff_eq]; exact h8
  have f9 : (wd == 0) = true := by rw [beq_iff_eq]; exact h9
  have g9 : (wd != 0) = false := by rw [bne_eq_false_iff_eq]; exact h9
  have f10 : (ki == 1) = false := beq_eq_false_iff_ne.2 h10
  have g10 : (ki != 1) = true := bne_iff_ne.2 h10
  have f11 : decide (1 ≤ da) = true := decide_eq_true h11
  have f12 : decide (da ≤ 31) = false := decide_eq_false h12
  clear h0 h1 h2 h3 h4 h5 h6 h7 h8 h9 h10 h11 h12
  go_enter Tryz.func61, Tryz.ntmps61
  go_upto_region 1 with (fail)
  have KB := ((BK.nil w).more6 (.int .i64 (mo)) (.int .i64 (ki)) (.int .i64 (wd)) (.int .i64 (da)) (.int .i64 (ti)) (.int .i64 (re)) 34)
  generalize (w.alloc (.cells #[.int .i64 (mo), .int .i64 (ki), .int .i64 (wd), .int .i64 (da), .int .i64 (ti), .int .i64 (re)] 34)) = w0 at *
  obtain ⟨_, qa, qb, qc, qd, qe, qf, _⟩ := (KB.head).six
  have HB := KB.hb
  go_wp2
  go_ret
  exact ⟨rfl, HB⟩
theorem sr_b3 (mo ki wd da ti re : Int) (h0 : ¬ mo < 1) (h1 : ¬ 12 < mo) (h2 : ¬ ki < 0) (h3 : ¬ 3 < ki) (h4 : ¬ ti < -604799) (h5 : ¬ 604799 < ti) (h6 : ¬ re < 0) (h7 : ¬ 2 < re) (h8 : ki = 0) (h9 : wd = 0) (h10 : ¬ ki = 1) (h11 : 1 ≤ da) (h12 : da ≤ 31) (w : World) :
    Calls Tryz.prog 61 #[.agg #[.int .i64 (mo), .int .i64 (ki), .int .i64 (wd), .int .i64 (da), .int .i64 (ti), .int .i64 (re)]] w (RetV w (.bool true)) := by
  have f0 : decide (mo < 1) = false := decide_eq_false h0
  have f1 : decide (12 < mo) = false := decide_eq_false h1
  have f2 : decide (ki < 0) = false := decide_eq_false h2
  have f3 : decide (3 < ki) = false := decide_eq_false h3
  have f4 : decide (ti < -604799) = false := decide_eq_false h4
  have f5 : decide (604799 < ti) = false := decide_eq_false h5
  have f6 : decide (re < 0) = false := decide_eq_false h6
  have f7 : decide (2 < re) = false := decide_eq_false h7
  have f8 : (ki == 0) = true := by rw [beq_iff_eq]; exact h8
  have g8 : (ki != 0) = false := by rw [bne_eq_false_iff_eq]; exact h8
  have f9 : (wd == 0) = true := by rw [beq_iff_eq]; exact h9
  have g9 : (wd != 0) = false := by rw [bne_eq_false_iff_eq]; exact h9
  have f10 : (ki == 1) = false := beq_eq_false_iff_ne.2 h10
  have g10 : (ki != 1) = true := bne_iff_ne.2 h10
  have f11 : decide (1 ≤ da) = true := decide_eq_true h11
  have f12 : decide (da ≤ 31) = true := decide_eq_true h12
  clear h0 h1 h2 h3 h4 h5 h6 h7 h8 h9 h10 h11 h12
  go_enter Tryz.func61, Tryz.ntmps61
  go_upto_region 1 with (fail)
  have KB := ((BK.nil w).more6 (.int .i64 (mo)) (.int .i64 (ki)) (.int .i64 (wd)) (.int .i64 (da)) (.int .i64 (ti)) (.int .i64 (re)) 34)
  generalize (w.alloc (.cells #[.int .i64 (mo), .int .i64 (ki), .int .i64 (wd), .int .i64 (da), .int .i64 (ti), .int .i64 (re)] 34)) = w0 at *
  obtain ⟨_, qa, qb, qc, qd, qe, qf, _⟩ := (KB.head).six
  have HB := KB.hb
  go_wp2
  go_ret
  exact ⟨rfl, HB⟩
theorem sr_c1 (mo ki wd da ti re : Int) (h0 : ¬ mo < 1) (h1 : ¬ 12 < mo) (h2 : ¬ ki < 0) (h3 : ¬ 3 < ki) (h4 : ¬ ti < -604799) (h5 : ¬ 604799 < ti) (h6 : ¬ re < 0) (h7 : ¬ 2 < re) (h8 : ¬ ki = 0) (h9 : wd < 1) (w : World) :
    Calls Tryz.prog 61 #[.agg #[.int .i64 (mo), .int .i64 (ki), .int .i64 (wd), .int .i64 (da), .int .i64 (ti), .int .i64 (re)]] w (RetV w (.bool false)) := by
  have f0 : decide (mo < 1) = false := decide_eq_false h0
  have f1 : decide (12 < mo) = false := decide_eq_false h1
  have f2 : decide (ki < 0) = false := decide_eq_false h2
  have f3 : decide (3 < ki) = false := decide_eq_false h3
  have f4 : decide (ti < -604799) = false := decide_eq_false h4
  have f5 : decide (604799 < ti) = false := decide_eq_false h5
  have f6 : decide (re < 0) = false := decide_eq_false h6
  have f7 : decide (2 < re) = false := decide_eq_false h7
  have f8 : (ki == 0) = false := beq_eq_false_iff_ne.2 h8
  have g8 : (ki != 0) = true := bne_iff_ne.2 h8
  have f9 : decide (wd < 1) = true := decide_eq_true h9
  clear h0 h1 h2 h3 h4 h5 h6 h7 h8 h9
  go_enter Tryz.func61, Tryz.ntmps61
  go_upto_region 1 with (fail)
  have KB := ((BK.nil w).more6 (.int .i64 (mo)) (.int .i64 (ki)) (.int .i64 (wd)) (.int .i64 (da)) (.int .i64 (ti)) (.int .i64 (re)) 34)
  generalize (w.alloc (.cells #[.int .i64 (mo), .int .i64 (ki), .int .i64 (wd), .int .i64 (da), .int .i64 (ti), .int .i64 (re)] 34)) = w0 at *
  obtain ⟨_, qa, qb, qc, qd, qe, qf, _⟩ := (KB.head).six
  have HB := KB.hb
  go_wp2
  go_ret
  exact ⟨rfl, HB⟩
theorem sr_c2 (mo ki wd da ti re : Int) (h0 : ¬ mo < 1) (h1 : ¬ 12 < mo) (h2 : ¬ ki < 0) (h3 : ¬ 3 < ki) (h4 : ¬ ti < -604799) (h5 : ¬ 604799 < ti) (h6 : ¬ re < 0) (h7 : ¬ 2 < re) (h8 : ¬ ki = 0) (h9 : ¬ wd < 1) (h10 : 7 < wd) (w : World) :
    Calls Tryz.prog 61 #[.agg #[.int .i64 (mo), .int .i64 (ki), .int .i64 (wd), .int .i64 (da), .int .i64 (ti), .int .i64 (re)]] w (RetV w (.bool false)) := by
  have f0 : decide (mo < 1) = false := decide_eq_false h0
  have f1 : decide (12 < mo) = false := decide_eq_false h1
  have f2 : decide (ki < 0) = false := decide_eq_false h2
  have f3 : decide (3 < ki) = false := decide_eq_false h3
  have f4 : decide (ti < -604799) = false := decide_eq_false h4
  have f5 : decide (604799 < ti) = false := decide_eq_false h5
  have f6 : decide (re < 0) = false := decide_eq_false h6
  have f7 : decide (2 < re) = false := decide_eq_false h7
  have f8 : (ki == 0) = false := beq_eq_false_iff_ne.2 h8
  have g8 : (ki != 0) = true := bne_iff_ne.2 h8
  have f9 : decide (wd < 1) = false := decide_eq_false h9
  have f10 : decide (7 < wd) = true := decide_eq_true h10
  clear h0 h1 h2 h3 h4 h5 h6 h7 h8 h9 h10
  go_enter Tryz.func61, Tryz.ntmps61
  go_upto_region 1 with (fail)
  have KB := ((BK.nil w).more6 (.int .i64 (mo)) (.int .i64 (ki)) (.int .i64 (wd)) (.int .i64 (da)) (.int .i64 (ti)) (.int .i64 (re)) 34)
  generalize (w.alloc (.cells #[.int .i64 (mo), .int .i64 (ki), .int .i64 (wd), .int .i64 (da), .int .i64 (ti), .int .i64 (re)] 34)) = w0 at *
  obtain ⟨_, qa, qb, qc, qd, qe, qf, _⟩ := (KB.head).six
  have HB := KB.hb
  go_wp2
  go_ret
  exact ⟨rfl, HB⟩
theorem sr_d1 (mo ki wd da ti re : Int) (h0 : ¬ mo < 1) (h1 : ¬ 12 < mo) (h2 : ¬ ki < 0) (h3 : ¬ 3 < ki) (h4 : ¬ ti < -604799) (h5 : ¬ 604799 < ti) (h6 : ¬ re < 0) (h7 : ¬ 2 < re) (h8 : ¬ ki = 0) (h9 : ¬ wd < 1) (h10 : ¬ 7 < wd) (h11 : ki = 1) (h12 : da = 0) (w : World) :
    Calls Tryz.prog 61 #[.agg #[.int .i64 (mo), .int .i64 (ki), .int .i64 (wd), .int .i64 (da), .int .i64 (ti), .int .i64 (re)]] w (RetV w (.bool true)) := by
  have f0 : decide (mo < 1) = false := decide_eq_false h0
  have f1 : decide (12 < mo) = false := decide_eq_false h1
  have f2 : decide (ki < 0) = false := decide_eq_false h2
  have f3 : decide (3 < ki) = false := decide_eq_false h3
  have f4 : decide (ti < -604799) = false := decide_eq_false h4
  have f5 : decide (604799 < ti) = false := decide_eq_false h5
  have f6 : decide (re < 0) = false := decide_eq_false h6
  have f7 : decide (2 < re) = false := decide_eq_false h7
  have f8 : (ki == 0) = false := beq_eq_false_iff_ne.2 h8
  have g8 : (ki != 0) = true := bne_iff_ne.2 h8
  have f9 : decide (wd < 1) = false := decide_eq_false h9
  have f10 : decide (7 < wd) = false := decide_eq_false h10
  have f11 : (ki == 1) = true := by rw [beq_iff_eq]; exact h11
  have g11 : (ki != 1) = false := by rw [bne_eq_false_iff_eq]; exact h11
  have f12 : (da == 0) = true := by rw [beq_iff_eq]; exact h12
  have g12 : (da != 0) = false := by rw [bne_eq_false_iff_eq]; exact h12
  clear h0 h1 h2 h3 h4 h5 h6 h7 h8 h9 h10 h11 h12
  go_enter Tryz.func61, Tryz.ntmps61
  go_upto_region 1 with (fail)
  have KB := ((BK.nil w).more6 (.int .i64 (mo)) (.int .i64 (ki)) (.int .i64 (wd)) (.int .i64 (da)) (.int .i64 (ti)) (.int .i64 (re)) 34)
  generalize (w.alloc (.cells #[.int .i64 (mo), .int .i64 (ki), .int .i64 (wd), .int .i64 (da), .int .i64 (ti), .int .i64 (re)] 34)) = w0 at *
  obtain ⟨_, qa, qb, qc, qd, qe, qf, _⟩ := (KB.head).six
  have HB := KB.hb
  go_wp2
  go_ret
  exact ⟨rfl, HB⟩
theorem sr_d2 (mo ki wd da ti re : Int) (h0 : ¬ mo < 1) (h1 : ¬ 12 < mo) (h2 : ¬ ki < 0) (h3 : ¬ 3 < ki) (h4 : ¬ ti < -604799) (h5 : ¬ 604799 < ti) (h6 : ¬ re < 0) (h7 : ¬ 2 < re) (h8 : ¬ ki = 0) (h9 : ¬ wd < 1) (h10 : ¬ 7 < wd) (h11 : ki = 1) (h12 : ¬ da = 0) (w : World) :
    Calls Tryz.prog 61 #[.agg #[.int .i64 (mo), .int .i64 (ki), .int .i64 (wd), .int .i64 (da), .int .i64 (ti), .int .i64 (re)]] w (RetV w (.bool false)) := by
  have f0 : decide (mo < 1) = false := decide_eq_false h0
  have f1 : decide (12 < mo) = false := decide_eq_false h1
  have f2 : decide (ki < 0) = false := decide_eq_false h2
  have f3 : decide (3 < ki) = false := decide_eq_false h3
  have f4 : decide (ti < -604799) = false := decide_eq_false h4
  have f5 : decide (604799 < ti) = false := decide_eq_false h5
  have f6 : decide (re < 0) = false := decide_eq_false h6
  have f7 : decide (2 < re) = false := decide_eq_false h7
  have f8 : (ki == 0) = false := beq_eq_false_iff_ne.2 h8
  have g8 : (ki != 0) = true := bne_iff_ne.2 h8
  have f9 : decide (wd < 1) = false := decide_eq_false h9
  have f10 : decide (7 < wd) = false := decide_eq_false h10
  have f11 : (ki == 1) = true := by rw [beq_iff_eq]; exact h11
  have g11 : (ki != 1) = false := by rw [bne_eq_false_iff_eq]; exact h11
  have f12 : (da == 0) = false := beq_eq_false_iff_ne.2 h12
  have g12 : (da != 0) = true := bne_iff_ne.2 h12
  clear h0 h1 h2 h3 h4 h5 h6 h7 h8 h9 h10 h11 h12
  go_enter Tryz.func61, Tryz.ntmps61
  go_upto_region 1 with (fail)
  have KB := ((BK.nil w).more6 (.int .i64 (mo)) (.int .i64 (ki)) (.int .i64 (wd)) (.int .i64 (da)) (.int .i64 (ti)) (.int .i64 (re)) 34)
  generalize (w.alloc (.cells #[.int .i64 (mo), .int .i64 (ki), .int .i64 (wd), .int .i64 (da), .int .i64 (ti), .int .i64 (re)] 34)) = w0 at *
  obtain ⟨_, qa, qb, qc, qd, qe, qf, _⟩ := (KB.head).six
  have HB := KB.hb
  go_wp2
  go_ret
  exact ⟨rfl, HB⟩
theorem sr_e1 (mo ki wd da ti re : Int) (h0 : ¬ mo < 1) (h1 : ¬ 12 < mo) (h2 : ¬ ki < 0) (h3 : ¬ 3 < ki) (h4 : ¬ ti < -604799) (h5 : ¬ 604799 < ti) (h6 : ¬ re < 0) (h7 : ¬ 2 < re) (h8 : ¬ ki = 0) (h9 : ¬ wd < 1) (h10 : ¬ 7 < wd) (h11 : ¬ ki = 1) (h12 : ¬ 1 ≤ da) (w : World) :
    Calls Tryz.prog 61 #[.agg #[.int .i64 (mo), .int .i64 (ki), .int .i64 (wd), .int .i64 (da), .int .i64 (ti), .int .i64 (re)]] w (RetV w (.bool false)) := by
  have f0 : decide (mo < 1) = false := decide_eq_false h0
  have f1 : decide (12 < mo) = false := decide_eq_false h1
  have f2 : decide (ki < 0) = false := decide_eq_false h2
  have f3 : decide (3 < ki) = false := decide_eq_false h3
  have f4 : decide (ti < -604799) = false := decide_eq_false h4
  have f5 : decide (604799 < ti) = false := decide_eq_false h5
  have f6 : decide (re < 0) = false := decide_eq_false h6
  have f7 : decide (2 < re) = false := decide_eq_false h7
  have f8 : (ki == 0) = false := beq_eq_false_iff_ne.2 h8
  have g8 : (ki != 0) = true := bne_iff_ne.2 h8
  have f9 : decide (wd < 1) = false := decide_eq_false h9
  have f10 : decide (7 < wd) = false := decide_eq_false h10
  have f11 : (ki == 1) = false := beq_eq_false_iff_ne.2 h11
  have g11 : (ki != 1) = true := bne_iff_ne.2 h11
  have f12 : decide (1 ≤ da) = false := decide_eq_false h12
  clear h0 h1 h2 h3 h4 h5 h6 h7 h8 h9 h10 h11 h12
  go_enter Tryz.func61, Tryz.ntmps61
  go_upto_region 1 with (fail)
  have KB := ((BK.nil w).more6 (.int .i64 (mo)) (.int .i64 (ki)) (.int .i64 (wd)) (.int .i64 (da)) (.int .i64 (ti)) (.int .i64 (re)) 34)
  generalize (w.alloc (.cells #[.int .i64 (mo), .int .i64 (ki), .int .i64 (wd), .int .i64 (da), .int .i64 (ti), .int .i64 (re)] 34)) = w0 at *
  obtain ⟨_, qa, qb, qc, qd, qe, qf, _⟩ := (KB.head).six
  have HB := KB.hb
  go_wp2
  go_ret
  exact ⟨rfl, HB⟩
theorem sr_e2 (mo ki wd da ti re : Int) (h0 : ¬ mo < 1) (h1 : ¬ 12 < mo) (h2 : ¬ ki < 0) (h3 : ¬ 3 < ki) (h4 : ¬ ti < -604799) (h5 : ¬ 604799 < ti) (h6 : ¬ re < 0) (h7 : ¬ 2 < re) (h8 : ¬ ki = 0) (h9 : ¬ wd < 1) (h10 : ¬ 7 < wd) (h11 : ¬ ki = 1) (h12 : 1 ≤ da) (h13 : ¬ da ≤ 31) (w : World) :
    Calls Tryz.prog 61 #[.agg #[.int .i64 (mo), .int .i64 (ki), .int .i64 (wd), .int .i64 (da), .int .i64 (ti), .int .i64 (re)]] w (RetV w (.bool false)) := by
  have f0 : decide (mo < 1) = false := decide_eq_false h0
  have f1 : decide (12 < mo) = false := decide_eq_false h1
  have f2 : decide (ki < 0) = false := decide_eq_false h2
  have f3 : decide (3 < ki) = false := decide_eq_false h3
  have f4 : decide (ti < -604799) = false := decide_eq_false h4
  have f5 : decide (604799 < ti) = false := decide_eq_false h5
  have f6 : decide (re < 0) = false := decide_eq_false h6
  have f7 : decide (2 < re) = false := decide_eq_false h7
  have f8 : (ki == 0) = false := beq_eq_false_iff_ne.2 h8
  have g8 : (ki != 0) = true := bne_iff_ne.2 h8
  have f9 : decide (wd < 1) = false := decide_eq_false h9
  have f10 : decide (7 < wd) = false := decide_eq_false h10
  have f11 : (ki == 1) = false := beq_eq_false_iff_ne.2 h11
  have g11 : (ki != 1) = true := bne_iff_ne.2 h11
  have f12 : decide (1 ≤ da) = true := decide_eq_true h12
  have f13 : decide (da ≤ 31) = false := decide_eq_false h13
  clear h0 h1 h2 h3 h4 h5 h6 h7 h8 h9 h10 h11 h12 h13
  go_enter Tryz.func61, Tryz.ntmps61
  go_upto_region 1 with (fail)
  have KB := ((BK.nil w).more6 (.int .i64 (mo)) (.int .i64 (ki)) (.int .i64 (wd)) (.int .i64 (da)) (.int .i64 (ti)) (.int .i64 (re)) 34)
  generalize (w.alloc (.cells #[.int .i64 (mo), .int .i64 (ki), .int .i64 (wd), .int .i64 (da), .int .i64 (ti), .int .i64 (re)] 34)) = w0 at *
  obtain ⟨_, qa, qb, qc, qd, qe, qf, _⟩ := (KB.head).six
  have HB := KB.hb
  go_wp2
  go_ret
  exact ⟨rfl, HB⟩
theorem sr_e3 (mo ki wd da ti re : Int) (h0 : ¬ mo < 1) (h1 : ¬ 12 < mo) (h2 : ¬ ki < 0) (h3 : ¬ 3 < ki) (h4 : ¬ ti < -604799) (h5 : ¬ 604799 < ti) (h6 : ¬ re < 0) (h7 : ¬ 2 < re) (h8 : ¬ ki = 0) (h9 : ¬ wd < 1) (h10 : ¬ 7 < wd) (h11 : ¬ ki = 1) (h12 : 1 ≤ da) (h13 : da ≤ 31) (w : World) :
    Calls Tryz.prog 61 #[.agg #[.int .i64 (mo), .int .i64 (ki), .int .i64 (wd), .int .i64 (da), .int .i64 (ti), .int .i64 (re)]] w (RetV w (.bool true)) := by
  have f0 : decide (mo < 1) = false := decide_eq_false h0
  have f1 : decide (12 < mo) = false := decide_eq_false h1
  have f2 : decide (ki < 0) = false := decide_eq_false h2
  have f3 : decide (3 < ki) = false := decide_eq_false h3
  have f4 : decide (ti < -604799) = false := decide_eq_false h4
  have f5 : decide (604799 < ti) = false := decide_eq_false h5
  have f6 : decide (re < 0) = false := decide_eq_false h6
  have f7 : decide (2 < re) = false := decide_eq_false h7
  have f8 : (ki == 0) = false := beq_eq_false_iff_ne.2 h8
  have g8 : (ki != 0) = true := bne_iff_ne.2 h8
  have f9 : decide (wd < 1) = false := decide_eq_false h9
  have f10 : decide (7 < wd) = false := decide_eq_false h10
  have f11 : (ki == 1) = false := beq_eq_false_iff_ne.2 h11
  have g11 : (ki != 1) = true := bne_iff_ne.2 h11
  have f12 : decide (1 ≤ da) = true := decide_eq_true h12
  have f13 : decide (da ≤ 31) = true := decide_eq_true h13
  clear h0 h1 h2 h3 h4 h5 h6 h7 h8 h9 h10 h11 h12 h13
  go_enter Tryz.func61, Tryz.ntmps61
  go_upto_region 1 with (fail)
  have KB := ((BK.nil w).more6 (.int .i64 (mo)) (.int .i64 (ki)) (.int .i64 (wd)) (.int .i64 (da)) (.int .i64 (ti)) (.int .i64 (re)) 34)
  generalize (w.alloc (.cells #[.int .i64 (mo), .int .i64 (ki), .int .i64 (wd), .int .i64 (da), .int .i64 (ti), .int .i64 (re)] 34)) = w0 at *
  obtain ⟨_, qa, qb, qc, qd, qe, qf, _⟩ := (KB.head).six
  have HB := KB.hb
  go_wp2
  go_ret
  exact ⟨rfl, HB⟩
theorem rightSR (x : Sp) (w : World) : Calls Tryz.prog 61 #[x.val] w (RetV w (.bool (decide x.ok))) := by
  obtain ⟨mo, ki, wd, da, ti, re⟩ := x
  show Calls Tryz.prog _ #[.agg #[.int .i64 mo, .int .i64 ki, .int .i64 wd, .int .i64 da, .int .i64 ti, .int .i64 re]] w _
  by_cases c0 : mo < 1
  · rw [decide_eq_false (by intro h; unfold Sp.ok at h; simp only [] at h; omega)]; exact sr_0 mo ki wd da ti re c0 w
  by_cases c1 : 12 < mo
  · rw [decide_eq_false (by intro h; unfold Sp.ok at h; simp only [] at h; omega)]; exact sr_1 mo ki wd da ti re c0 c1 w
  by_cases c2 : ki < 0
  · rw [decide_eq_false (by intro h; unfold Sp.ok at h; simp only [] at h; omega)]; exact sr_2 mo ki wd da ti re c0 c1 c2 w
  by_cases c3 : 3 < ki
  · rw [decide_eq_false (by intro h; unfold Sp.ok at h; simp only [] at h; omega)]; exact sr_3 mo ki wd da ti re c0 c1 c2 c3 w
  by_cases c4 : ti < -604799
  · rw [decide_eq_false (by intro h; unfold Sp.ok at h; simp only [] at h; omega)]; exact sr_4 mo ki wd da ti re c0 c1 c2 c3 c4 w
  by_cases c5 : 604799 < ti
  · rw [decide_eq_false (by intro h; unfold Sp.ok at h; simp only [] at h; omega)]; exact sr_5 mo ki wd da ti re c0 c1 c2 c3 c4 c5 w
  by_cases c6 : re < 0
  · rw [decide_eq_false (by intro h; unfold Sp.ok at h; simp only [] at h; omega)]; exact sr_6 mo ki wd da ti re c0 c1 c2 c3 c4 c5 c6 w
  by_cases c7 : 2 < re
  · rw [decide_eq_false (by intro h; unfold Sp.ok at h; simp only [] at h; omega)]; exact sr_7 mo ki wd da ti re c0 c1 c2 c3 c4 c5 c6 c7 w
  by_cases k0 : ki = 0
  · have k1 : ¬ ki = 1 := by omega
    by_cases w0 : wd = 0
    case neg => rw [decide_eq_false (by intro h; unfold Sp.ok at h; simp only [] at h; omega)]; exact sr_a mo ki wd da ti re c0 c1 c2 c3 c4 c5 c6 c7 k0 w0 w
    by_cases d1 : 1 ≤ da
    case neg => rw [decide_eq_false (by intro h; unfold Sp.ok at h; simp only [] at h; omega)]; exact sr_b1 mo ki wd da ti re c0 c1 c2 c3 c4 c5 c6 c7 k0 w0 k1 d1 w
    by_cases d2 : da ≤ 31
    case neg => rw [decide_eq_false (by intro h; unfold Sp.ok at h; simp only [] at h; omega)]; exact sr_b2 mo ki wd da ti re c0 c1 c2 c3 c4 c5 c6 c7 k0 w0 k1 d1 d2 w
    rw [decide_eq_true (by unfold Sp.ok; simp only []; omega)]; exact sr_b3 mo ki wd da ti re c0 c1 c2 c3 c4 c5 c6 c7 k0 w0 k1 d1 d2 w
  by_cases w1 : wd < 1
  · rw [decide_eq_false (by intro h; unfold Sp.ok at h; simp only [] at h; omega)]; exact sr_c1 mo ki wd da ti re c0 c1 c2 c3 c4 c5 c6 c7 k0 w1 w
  by_cases w2 : 7 < wd
  · rw [decide_eq_false (by intro h; unfold Sp.ok at h; simp only [] at h; omega)]; exact sr_c2 mo ki wd da ti re c0 c1 c2 c3 c4 c5 c6 c7 k0 w1 w2 w
  by_cases k1 : ki = 1
  · by_cases d0 : da = 0
    · rw [decide_eq_true (by unfold Sp.ok; simp only []; omega)]; exact sr_d1 mo ki wd da ti re c0 c1 c2 c3 c4 c5 c6 c7 k0 w1 w2 k1 d0 w
    · rw [decide_eq_false (by intro h; unfold Sp.ok at h; simp only [] at h; omega)]; exact sr_d2 mo ki wd da ti re c0 c1 c2 c3 c4 c5 c6 c7 k0 w1 w2 k1 d0 w
  by_cases d1 : 1 ≤ da
  case neg => rw [decide_eq_false (by intro h; unfold Sp.ok at h; simp only [] at h; omega)]; exact sr_e1 mo ki wd da ti re c0 c1 c2 c3 c4 c5 c6 c7 k0 w1 w2 k1 d1 w
  by_cases d2 : da ≤ 31
  case neg => rw [decide_eq_false (by intro h; unfold Sp.ok at h; simp only [] at h; omega)]; exact sr_e2 mo ki wd da ti re c0 c1 c2 c3 c4 c5 c6 c7 k0 w1 w2 k1 d1 d2 w
  rw [decide_eq_true (by unfold Sp.ok; simp only []; omega)]; exact sr_e3 mo ki wd da ti re c0 c1 c2 c3 c4 c5 c6 c7 k0 w1 w2 k1 d1 d2 w
structure PB (w : World) (x0 x1 x2 x3 x4 x5 : Value) (k j : Nat) (mo wd : ByteArray) (W : World) : Prop where
  bx : Blk W w.heap.size [x0, x1, x2, x3, x4, x5]
  mc : W.cell? ⟨w.heap.size + 1, k, none⟩ = some (.string mo)
  wc : W.cell? ⟨w.heap.size + 2, j, none⟩ = some (.string wd)
  lt : w.heap.size + 3 ≤ W.heap.size
  hb : Below w.heap.size w W
section
variable {w W W' : World} {x0 x1 x2 x3 x4 x5 : Value} {k j : Nat} {mo wd : ByteArray}
end
end Go.Proofs.YtmhpnmlgfdomkaaGreatDoor
namespace Go.Proofs.YtmhpnmlgfdomkaaGreatDoor
open Go.RowKit
theorem CellsAt.get {W : World} {b : Nat} : ∀ {vs : List Value} {j : Nat}, CellsAt W b j vs → ∀ (i : Nat) (v : Value), vs[i]? = some v → W.cell? ⟨b, j + i, none⟩ = some v ∧ W.frozen? ⟨b, j + i, none⟩ = false
  | [], _, _, i, v, e => by simp at e
  | u :: vs, j, hc, 0, v, e => by
    obtain rfl : u = v := by simpa using e
    exact ⟨hc.1, hc.2.1⟩
  | u :: vs, j, hc, i + 1, v, e => by
    have := CellsAt.get hc.2.2 i v (by simpa using e)
    rwa [show j + 1 + i = j + (i + 1) by omega] at this
theorem Blk.cell {W : World} {b : Nat} {vs : List Value} (h : Blk W b vs) (i : Nat) {v : Value} (e : vs[i]? = some v) : W.cell? ⟨b, i, none⟩ = some v := by
  have := (h.cs.get i v e).1
  rwa [Nat.zero_add] at this
theorem Blk.thaw {W : World} {b : Nat} {vs : List Value} (h : Blk W b vs) (i : Nat) {v : Value} (e : vs[i]? = some v) : W.frozen? ⟨b, i, none⟩ = false := by
  have := (h.cs.get i v e).2
  rwa [Nat.zero_add] at this
theorem CellsAt.of {W : World} {b : Nat} : ∀ {vs : List Value} {j : Nat}, (∀ (i : Nat) (v : Value), vs[i]? = some v → W.cell? ⟨b, j + i, none⟩ = some v ∧ W.frozen? ⟨b, j + i, none⟩ = false) → CellsAt W b j vs
  | [], _, _ => trivial
  | v :: vs, j, h => ⟨(h 0 v rfl).1, (h 0 v rfl).2, CellsAt.of fun i u e => by
    have := h (i + 1) u (by simpa using e)
    rwa [show j + (i + 1) = j + 1 + i by omega] at this⟩
section
variable {w W : World} {L : List (Nat × List Value)}
end
end Go.Proofs.YtmhpnmlgfdomkaaGreatDoor
