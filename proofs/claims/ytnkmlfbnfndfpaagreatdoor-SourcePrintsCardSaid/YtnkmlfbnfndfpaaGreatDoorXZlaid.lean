/- From the row's condition (the listed tables read as the program's text lays them) to what the walks of package source ask of memory; a world that meets it. -/
import Derived.Test.YtnkmlfbnfndfpaaGreatDoorXYhand
import Derived.Test.YtnkmlfbnfndfpaaGreatDoorXSrcok
import Derived.LaidLaws
set_option maxRecDepth 100000
set_option maxHeartbeats 64000000
namespace Go.Proofs.YtnkmlfbnfndfpaaGreatDoor
open Go.RowKit Go.WideShapes Go.ChangeShapes
theorem cStr : Tryz.prog.cellsOf 9 = 1 := by kernel_rfl
theorem mom_mon {W : World} (h : Lib.VarReads Tryz.prog W "analemma/moment.months" Rows.laid_analemma_moment_months) : TabS 0 monB W :=
  have c := texts_of_reads (g := 0) (l := monB) (by kernel_rfl) (by kernel_rfl) Tryz.underlying166 cStr (by kernel_rfl) rfl h
  ⟨cell_lt (c 0 (by decide)), c⟩
theorem mom_wd {W : World} (h : Lib.VarReads Tryz.prog W "analemma/moment.weekdays" Rows.laid_analemma_moment_weekdays) : TabS 5 wdB W :=
  have c := texts_of_reads (g := 5) (l := wdB) (by kernel_rfl) (by kernel_rfl) Tryz.underlying187 cStr (by kernel_rfl) rfl h
  ⟨cell_lt (c 0 (by decide)), c⟩
theorem max_len {W : World} (hsh : W.ShapedOpen Tryz.prog) : ∃ m, W.cell? ⟨2, 0, none⟩ = some (.int .i64 m) :=
  cell_of_shapedOpen_int (P := Tryz.prog) (g := 2) (t := 3) (zero := #[.int .i64 0]) hsh (of_decide_eq_true (by kernel_rfl)) (by kernel_rfl) rfl (by kernel_rfl) (by kernel_rfl) Tryz.underlying3
theorem err_of_reads {name : String} {g : Nat} {nm : String} {d : DataW Unit} {t : TypeId} {ms : Array (String × TypeId)} {W : World} (hg : Tryz.prog.globalNamed name = some g) (ht : (Tryz.prog.globals[g]?).map (·.type) = some t) (hu : Tryz.prog.underlying t = some (.interface ms)) (h : Lib.VarReads Tryz.prog W name (.iface nm d)) :
    g < W.heap.size ∧ ∃ ev, W.cell? ⟨g, 0, none⟩ = some ev ∧ (ev = .nilIface ∨ ∃ te pe, ev = .iface te pe) := by
  obtain ⟨g0, t0, cs0, f0, p0, hg0, ht0, hv0, hd0⟩ := h
  obtain rfl := Option.some.inj (hg.symm.trans hg0)
  obtain rfl := Option.some.inj (ht.symm.trans ht0)
  obtain ⟨_, u, v, e1, _, _⟩ := iface_of_trod hu hd0
  have hc : W.cell? ⟨g, 0, none⟩ = some (.iface u v) := by
    rw [World.var?_cell hg0 hv0 0]
    have := congrArg (fun l => l[0]?) e1
    simpa using this
  exact ⟨cell_lt hc, _, hc, .inr ⟨u, v, rfl⟩⟩
end Go.Proofs.YtnkmlfbnfndfpaaGreatDoor
