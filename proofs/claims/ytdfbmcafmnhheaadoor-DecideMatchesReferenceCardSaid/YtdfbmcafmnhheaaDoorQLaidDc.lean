/- The condition of a row of stage 23 (it lists reqline.named and decide.names): from it to what the walks ask; a world that meets it. -/
import Derived.Test.YtdfbmcafmnhheaaDoorQDcdG
import Derived.Test.YtdfbmcafmnhheaaDoorQL
namespace Go.Proofs.YtdfbmcafmnhheaaDoor
set_option linter.all false
open Go.RowKit
abbrev lNamed : String × DataW Unit := ("doorkeeper/reqline.named", Rows.laid_doorkeeper_reqline_named)
abbrev lKinds : String × DataW Unit := ("doorkeeper/decide.names", Rows.laid_doorkeeper_decide_names)
abbrev laidL : List (String × DataW Unit) := [lNamed, lKinds]
theorem laid_data2 : (laidL.filter fun x => x.2.handleName?.isNone) = [lNamed, lKinds] := by kernel_rfl
theorem laid_handles2 : (laidL.filter fun x => x.2.handleName?.isSome) = [] := by kernel_rfl
theorem Tryd.gNamed : Tryd.prog.globalNamed "doorkeeper/reqline.named" = some 1 := by kernel_rfl
theorem Tryd.tNamed : (Tryd.prog.globals[1]?).map (·.type) = some 64 := by kernel_rfl
theorem Tryd.uNamed : Tryd.prog.underlying 64 = some (.array 9 9) := by kernel_rfl
theorem Tryd.cNamed : Tryd.prog.cellsOf 64 = 9 := by kernel_rfl
theorem Tryd.cStr : Tryd.prog.cellsOf 9 = 1 := by kernel_rfl
theorem Tryd.gKinds : Tryd.prog.globalNamed "doorkeeper/decide.names" = some 0 := by kernel_rfl
theorem Tryd.tKinds : (Tryd.prog.globals[0]?).map (·.type) = some 52 := by kernel_rfl
theorem Tryd.uKinds : Tryd.prog.underlying 52 = some (.array 5 9) := by kernel_rfl
theorem Tryd.cKinds : Tryd.prog.cellsOf 52 = 5 := by kernel_rfl
theorem data_kinds : (Rows.laid_doorkeeper_decide_names : DataW Unit) = strData dnames := by kernel_rfl
theorem data_named : (Rows.laid_doorkeeper_reqline_named : DataW Unit) = strData names := by kernel_rfl
theorem named_of_laid {W : World} (h : laidMetH Tryd.prog laidL W) (_ : W.ShapedOpen Tryd.prog) : Named W := by
  unfold laidMetH at h
  rw [laid_handles2] at h
  have h' : laidMet Tryd.prog laidL W := h
  have r := Lib.laidMet.reads h' (n := "doorkeeper/reqline.named") (.head _)
  rw [data_named] at r
  exact vals_of_reads Tryd.gNamed Tryd.tNamed Tryd.uNamed Tryd.underlying9 Tryd.cStr Tryd.cNamed r
theorem kinds_of_laid {W : World} (h : laidMetH Tryd.prog laidL W) (_ : W.ShapedOpen Tryd.prog) : DNames W := by
  unfold laidMetH at h
  rw [laid_handles2] at h
  have h' : laidMet Tryd.prog laidL W := h
  have r := Lib.laidMet.reads h' (n := "doorkeeper/decide.names") (.tail _ (.head _))
  rw [data_kinds] at r
  exact vals_of_reads Tryd.gKinds Tryd.tKinds Tryd.uKinds Tryd.underlying9 Tryd.cStr Tryd.cKinds r
theorem glob_of_laid {W : World} (h : laidMetH Tryd.prog laidL W) (hsh : W.ShapedOpen Tryd.prog) : GD W := ⟨named_of_laid h hsh, kinds_of_laid h hsh⟩
def putCells (g : Nat) (cs : Array Value) (h : Array Obj) : Array Obj := h.modify g fun
  | .cells _ t frozen => .cells cs t frozen
  | o => o
noncomputable def laidWorld (os : Os) : World :=
  let w0 := World.holding Tryd.prog os ⟨#[], #[], []⟩
  { w0 with heap := putCells 0 (strVals dnames).toArray (putCells 1 (strVals names).toArray w0.heap) }
theorem laidWorld_met (os : Os) (args : Array Value) : laidMetH Tryd.prog laidL ((laidWorld os).forCall (fun _ _ => 0) ⟨#[], args, []⟩).memory := by
  refine laidMetH_of_parts ?_ (by kernel_rfl)
  rw [laid_data2]
  exact laidMet_of_run' 4 (by kernel_rfl) (by kernel_rfl)
end Go.Proofs.YtdfbmcafmnhheaaDoor
