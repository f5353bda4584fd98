import Derived.Test.YtmhpnmlgfdomkaaGreatDoorZGy
import Derived.Test.YtmhpnmlgfdomkaaGreatDoorZGm
import Derived.Laws.CopyOwn
import Derived.BigQuiet
import Derived.Test.YtmhpnmlgfdomkaaGreatDoorZGe
import Derived.Test.YtmhpnmlgfdomkaaGreatDoorZGu
import Derived.Test.YtmhpnmlgfdomkaaGreatDoorZGsix
set_option maxRecDepth 100000
set_option maxHeartbeats 64000000
namespace Go.Proofs.YtmhpnmlgfdomkaaGreatDoor
open Go.RowKit
theorem mk_txt (n : Nat) (hn : n ≤ 100) (w : World) : (Instr.makeSlice 46 (.int .i64 (n : Int)) (.int .i64 (n : Int))).run Tryz.prog w = .ok (.slice (some ⟨w.heap.size, 0, none⟩) n n) (w.alloc (.cells (madeCells (Value.string ⟨#[]⟩).cells n) 9)) := by
  obtain ⟨i0, hi, hz0, hz1, hz2⟩ := info_partsS str_info
  have r := run_makeSlice (P := Tryz.prog) w 46 9 i0 _ Tryz.underlying46 hi hz0 .i64 .i64 n n (by omega) (by omega) (by rw [hz1]; simp; omega) (by rw [hz2]; omega) (by omega)
  rw [hz1] at r
  simpa using r
theorem mc_txt1 : madeCells (Value.string ⟨#[]⟩).cells 1 = #[.string ⟨#[]⟩] := by kernel_rfl
theorem mc_txt2 : madeCells (Value.string ⟨#[]⟩).cells 2 = #[.string ⟨#[]⟩, .string ⟨#[]⟩] := by kernel_rfl
theorem mc_txt3 : madeCells (Value.string ⟨#[]⟩).cells 3 = #[.string ⟨#[]⟩, .string ⟨#[]⟩, .string ⟨#[]⟩] := by kernel_rfl
@[local go_sem] theorem mk_txt1 (w : World) : (Instr.makeSlice 46 (.int .i64 1) (.int .i64 1)).run Tryz.prog w = .ok (.slice (some ⟨w.heap.size, 0, none⟩) 1 1) (w.alloc (.cells #[.string ⟨#[]⟩] 9)) := (mk_txt 1 (by decide) w).trans (by rw [mc_txt1])
@[local go_sem] theorem mk_txt2 (w : World) : (Instr.makeSlice 46 (.int .i64 2) (.int .i64 2)).run Tryz.prog w = .ok (.slice (some ⟨w.heap.size, 0, none⟩) 2 2) (w.alloc (.cells #[.string ⟨#[]⟩, .string ⟨#[]⟩] 9)) := (mk_txt 2 (by decide) w).trans (by rw [mc_txt2])
@[local go_sem] theorem mk_txt3 (w : World) : (Instr.makeSlice 46 (.int .i64 3) (.int .i64 3)).run Tryz.prog w = .ok (.slice (some ⟨w.heap.size, 0, none⟩) 3 3) (w.alloc (.cells #[.string ⟨#[]⟩, .string ⟨#[]⟩, .string ⟨#[]⟩] 9)) := (mk_txt 3 (by decide) w).trans (by rw [mc_txt3])
end Go.Proofs.YtmhpnmlgfdomkaaGreatDoor
