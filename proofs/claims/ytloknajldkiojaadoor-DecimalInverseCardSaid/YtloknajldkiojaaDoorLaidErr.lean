/- From the condition of a row that lists errors.errorType alone to what the walks ask; a world that meets the condition. -/
import Derived.Test.YtloknajldkiojaaDoorFltG
import Derived.Test.YtloknajldkiojaaDoorRows
import Derived.LaidLaws
import Derived.LaidHandle
import Derived.Lib.LaidTab
namespace Go.Proofs.YtloknajldkiojaaDoor
open Go.RowKit

abbrev lErr : String × DataW Unit := ("errors.errorType", Rows.laid_errors_errorType)
theorem laid_handles1 : ([lErr].filter fun x => x.2.handleName?.isSome) = [lErr] := by kernel_rfl
theorem laid_data1 : ([lErr].filter fun x => x.2.handleName?.isNone) = [] := by kernel_rfl
theorem Tryd.gErr : Tryd.prog.globalNamed "errors.errorType" = some 0 := by kernel_rfl
theorem Tryd.rt : (Tryd.prog.cutTypes.find? (·.1 == "internal/reflectlite.rtype")).map (·.2) = some 80 := by kernel_rfl
theorem Tryd.oneRow : ((List.range 121).filter fun t => Tryd.prog.rowNamed t [101, 114, 114, 111, 114]) = [24] := by kernel_rfl
theorem Tryd.tsize : Tryd.prog.types.size = 121 := by kernel_rfl

theorem errType_of_handle {W : World} (h : handlesMet Tryd.prog [lErr] W) : ErrType W := by
  obtain ⟨name, u, ty, e1, e2, e3, e4, e5⟩ := h _ (List.mem_singleton.2 rfl)
  have en : name = [101, 114, 114, 111, 114] := (Option.some.inj e1).symm
  subst en
  obtain rfl := Option.some.inj (Tryd.rt.symm.trans e2)
  have hm : ty ∈ (List.range 121).filter fun t => Tryd.prog.rowNamed t [101, 114, 114, 111, 114] := List.mem_filter.2 ⟨List.mem_range.2 (by rw [← Tryd.tsize]; exact e3), e4⟩
  rw [Tryd.oneRow] at hm
  obtain rfl := List.mem_singleton.1 hm
  have hh : typeHandle Tryd.prog 24 = .pointer (some ⟨1, 24, none⟩) := by kernel_rfl
  rw [hh] at e5
  have := World.var?_cell Tryd.gErr e5 0
  unfold ErrType
  simpa using this

theorem errType_of_laid {W : World} (h : laidMetH Tryd.prog [lErr] W) : ErrType W := by
  unfold laidMetH at h
  rw [laid_handles1, laid_data1] at h
  exact errType_of_handle h.2

/-- The variable as the program's text lays it. -/
def putCells (g : Nat) (cs : Array Value) (h : Array Obj) : Array Obj := h.modify g fun
  | .cells _ t frozen => .cells cs t frozen
  | o => o
def laidHeap (h : Array Obj) : Array Obj :=
  putCells 0 #[.iface 80 (.agg #[.pointer (some ⟨1, 24, none⟩)])] h
noncomputable def laidWorld (os : Os) : World :=
  let w0 := World.holding Tryd.prog os ⟨#[], #[], []⟩
  { w0 with heap := laidHeap w0.heap }
theorem laidWorld_met (os : Os) (args : Array Value) : laidMetH Tryd.prog [lErr] ((laidWorld os).forCall (fun _ _ => 0) ⟨#[], args, []⟩).memory := by
  refine laidMetH_of_parts ?_ (by kernel_rfl)
  rw [laid_data1]
  exact laidMet_of_run' 4 (by kernel_rfl) (by kernel_rfl)
end Go.Proofs.YtloknajldkiojaaDoor
