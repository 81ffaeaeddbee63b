/- From the condition of a row of stage 11 (it lists errors.errorType and field.missing; it names internal/bytealg.MaxLen) to what the walks ask; a world that meets the condition. -/
import Derived.Test.YtehlhobogpgaaaaDoorFldK
import Derived.Test.YtehlhobogpgaaaaDoorRows
import Derived.LaidLaws
import Derived.LaidHandle
import Derived.Lib.LaidTab
import Derived.Stop.LaidErr
namespace Go.Proofs.YtehlhobogpgaaaaDoor
set_option linter.all false
open Go.RowKit

abbrev lErr : String × DataW Unit := ("errors.errorType", Rows.laid_errors_errorType)
abbrev lMis : String × DataW Unit := ("doorkeeper/field.missing", Rows.laid_doorkeeper_field_missing)
abbrev laidL : List (String × DataW Unit) := [lErr, lMis]
theorem laid_handles2 : (laidL.filter fun x => x.2.handleName?.isSome) = [lErr] := by kernel_rfl
theorem laid_data2 : (laidL.filter fun x => x.2.handleName?.isNone) = [lMis] := by kernel_rfl
theorem Tryd.gErr : Tryd.prog.globalNamed "errors.errorType" = some 2 := by kernel_rfl
theorem Tryd.gMis : Tryd.prog.globalNamed "doorkeeper/field.missing" = some 0 := by kernel_rfl
theorem Tryd.tMis : (Tryd.prog.globals[0]?).map (·.type) = some 26 := by kernel_rfl
theorem Tryd.star : "*" ++ "errors.errorString" = "*errors.errorString" := by decide
theorem Tryd.rowMis (u : TypeId) (h : Tryd.prog.typeName? 3 u = some "*errors.errorString") : u = 122 :=
  typeName_ptr_named (nm := "errors.errorString") (by rw [Tryd.star]; kernel_rfl) (by kernel_rfl) (by decide) u (by rw [Tryd.star]; exact h)
theorem Tryd.cellsEs : Tryd.prog.cellsOf 142 = 1 := by kernel_rfl
theorem Tryd.cellsStr : Tryd.prog.cellsOf 9 = 1 := by kernel_rfl
theorem Tryd.rt : (Tryd.prog.cutTypes.find? (·.1 == "internal/reflectlite.rtype")).map (·.2) = some 82 := by kernel_rfl
theorem Tryd.oneRow : ((List.range 154).filter fun t => Tryd.prog.rowNamed t [101, 114, 114, 111, 114]) = [26] := by kernel_rfl
theorem Tryd.tsize : Tryd.prog.types.size = 154 := by kernel_rfl

theorem errType_of_handle {W : World} (h : handlesMet Tryd.prog [lErr] W) : ErrType W := by
  obtain ⟨name, u, ty, e1, e2, e3, e4, e5⟩ := h _ (List.mem_singleton.2 rfl)
  have en : name = [101, 114, 114, 111, 114] := (Option.some.inj e1).symm
  subst en
  obtain rfl := Option.some.inj (Tryd.rt.symm.trans e2)
  have hm : ty ∈ (List.range 154).filter fun t => Tryd.prog.rowNamed t [101, 114, 114, 111, 114] := List.mem_filter.2 ⟨List.mem_range.2 (by rw [← Tryd.tsize]; exact e3), e4⟩
  rw [Tryd.oneRow] at hm
  obtain rfl := List.mem_singleton.1 hm
  have hh : typeHandle Tryd.prog 26 = .pointer (some ⟨3, 26, none⟩) := by kernel_rfl
  rw [hh] at e5
  have := World.var?_cell Tryd.gErr e5 0
  unfold ErrType
  simpa using this
theorem missing_of_laid {W : World} (h : laidMet Tryd.prog [lMis] W) : Missing W := by
  obtain ⟨a, s, hv, _⟩ := laid_sentinel h Tryd.gMis Tryd.tMis Tryd.underlying26 Tryd.rowMis Tryd.underlying122 Tryd.underlying142 rfl rfl Tryd.underlying9 Tryd.cellsEs Tryd.cellsStr
  have := World.var?_cell Tryd.gMis hv 0
  exact ⟨.pointer (some a), by unfold baseM; simpa using this⟩
theorem maxIn_of_shape {W : World} (h : W.ShapedOpen Tryd.prog) : MaxIn W := Tryd.laysM145.s1_3 W h
theorem glob_of_laid {W : World} (h : laidMetH Tryd.prog laidL W) (hs : W.ShapedOpen Tryd.prog) : GlobF W := by
  unfold laidMetH at h
  rw [laid_handles2, laid_data2] at h
  exact ⟨errType_of_handle h.2, maxIn_of_shape hs, missing_of_laid h.1⟩

/-- The variables as the program's text lays them. -/
def putCells (g : Nat) (cs : Array Value) (h : Array Obj) : Array Obj := h.modify g fun
  | .cells _ t frozen => .cells cs t frozen
  | o => o
abbrev noValue : ByteArray := ⟨#[110, 111, 32, 118, 97, 108, 117, 101]⟩
noncomputable def lowM : Nat := (World.holding Tryd.prog default ⟨#[], #[], []⟩).heap.size
noncomputable def laidWorld (os : Os) : World :=
  let w0 := World.holding Tryd.prog os ⟨#[.cells #[.string noValue] 142], #[], []⟩
  { w0 with heap := putCells 0 #[.iface 122 (.pointer (some ⟨lowM, 0, none⟩))] (putCells 2 #[.iface 82 (.agg #[.pointer (some ⟨3, 26, none⟩)])] w0.heap) }
theorem laidWorld_met (os : Os) (args : Array Value) : laidMetH Tryd.prog laidL ((laidWorld os).forCall (fun _ _ => 0) ⟨#[], args, []⟩).memory := by
  refine laidMetH_of_parts ?_ (by kernel_rfl)
  rw [laid_data2]
  exact laidMet_of_run' 8 (by kernel_rfl) (by kernel_rfl)
end Go.Proofs.YtehlhobogpgaaaaDoor
