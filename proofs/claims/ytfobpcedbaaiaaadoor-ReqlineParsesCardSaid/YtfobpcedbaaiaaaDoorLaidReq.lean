/- From the condition of a row of stage 10 (it lists unicode/utf8's acceptRanges and first, errors.errorType and reqline.named) to what the walks ask; a world that meets the condition. -/
import Derived.Test.YtfobpcedbaaiaaaDoorReqD
import Derived.Test.YtfobpcedbaaiaaaDoorFltG
import Derived.Test.YtfobpcedbaaiaaaDoorLaidS
namespace Go.Proofs.YtfobpcedbaaiaaaDoor
set_option linter.all false
open Go.RowKit

abbrev lAcc : String × DataW Unit := ("unicode/utf8.acceptRanges", Rows.laid_unicode_utf8_acceptRanges)
abbrev lErr : String × DataW Unit := ("errors.errorType", Rows.laid_errors_errorType)
abbrev lNamed : String × DataW Unit := ("doorkeeper/reqline.named", Rows.laid_doorkeeper_reqline_named)
abbrev lFirst : String × DataW Unit := ("unicode/utf8.first", Rows.laid_unicode_utf8_first)
abbrev laidL : List (String × DataW Unit) := [lAcc, lErr, lNamed, lFirst]
theorem laid_handles4 : (laidL.filter fun x => x.2.handleName?.isSome) = [lErr] := by kernel_rfl
theorem laid_data4 : (laidL.filter fun x => x.2.handleName?.isNone) = [lAcc, lNamed, lFirst] := by kernel_rfl
theorem Tryd.gErr : Tryd.prog.globalNamed "errors.errorType" = some 1 := by kernel_rfl
theorem Tryd.gNamed : Tryd.prog.globalNamed "doorkeeper/reqline.named" = some 0 := by kernel_rfl
theorem Tryd.tNamed : (Tryd.prog.globals[0]?).map (·.type) = some 60 := by kernel_rfl
theorem Tryd.uNamed : Tryd.prog.underlying 60 = some (.array 9 9) := by kernel_rfl
theorem Tryd.cNamed : Tryd.prog.cellsOf 60 = 9 := by kernel_rfl
theorem Tryd.cStr : Tryd.prog.cellsOf 9 = 1 := by kernel_rfl
theorem Tryd.rt : (Tryd.prog.cutTypes.find? (·.1 == "internal/reflectlite.rtype")).map (·.2) = some 104 := by kernel_rfl
theorem Tryd.oneRow : ((List.range 150).filter fun t => Tryd.prog.rowNamed t [101, 114, 114, 111, 114]) = [26] := by kernel_rfl
theorem Tryd.tsize : Tryd.prog.types.size = 150 := by kernel_rfl

theorem errType_of_handle {W : World} (h : handlesMet Tryd.prog [lErr] W) : ErrType W := by
  obtain ⟨name, u, ty, e1, e2, e3, e4, e5⟩ := h _ (List.mem_singleton.2 rfl)
  have en : name = [101, 114, 114, 111, 114] := (Option.some.inj e1).symm
  subst en
  obtain rfl := Option.some.inj (Tryd.rt.symm.trans e2)
  have hm : ty ∈ (List.range 150).filter fun t => Tryd.prog.rowNamed t [101, 114, 114, 111, 114] := List.mem_filter.2 ⟨List.mem_range.2 (by rw [← Tryd.tsize]; exact e3), e4⟩
  rw [Tryd.oneRow] at hm
  obtain rfl := List.mem_singleton.1 hm
  have hh : typeHandle Tryd.prog 26 = .pointer (some ⟨5, 26, none⟩) := by kernel_rfl
  rw [hh] at e5
  have := World.var?_cell Tryd.gErr e5 0
  unfold ErrType
  simpa using this
theorem data_named : (Rows.laid_doorkeeper_reqline_named : DataW Unit) = strData names := by kernel_rfl
theorem errType_of_laid {W : World} (h : laidMetH Tryd.prog laidL W) : ErrType W := by
  unfold laidMetH at h
  rw [laid_handles4, laid_data4] at h
  exact errType_of_handle h.2
theorem named_of_laid {W : World} (h : laidMetH Tryd.prog laidL W) : Named W := by
  unfold laidMetH at h
  rw [laid_handles4, laid_data4] at h
  have r := Lib.laidMet.reads h.1 (n := "doorkeeper/reqline.named") (.tail _ (.head _))
  rw [data_named] at r
  exact vals_of_reads Tryd.gNamed Tryd.tNamed Tryd.uNamed Tryd.underlying9 Tryd.cStr Tryd.cNamed r
def GlobReq (W : World) : Prop := ErrType W ∧ Named W
theorem glob_of_laid {W : World} (h : laidMetH Tryd.prog laidL W) : GlobReq W := ⟨errType_of_laid h, named_of_laid h⟩

/-- The variables as the program's text lays them: the cells of a table of bytes, of a table of pairs of bytes. -/
def byteCell : DataW Unit → List Value
  | .lit (.int _ n) => [.int .u8 n]
  | _ => []
def pairCells : DataW Unit → List Value
  | .agg l => l.flatMap byteCell
  | d => byteCell d
def tabCells : DataW Unit → Array Value
  | .agg l => (l.flatMap pairCells).toArray
  | _ => #[]
def putCells (g : Nat) (cs : Array Value) (h : Array Obj) : Array Obj := h.modify g fun
  | .cells _ t frozen => .cells cs t frozen
  | o => o
def laidHeap (h : Array Obj) : Array Obj :=
  let h1 := putCells 4 (tabCells Rows.laid_unicode_utf8_acceptRanges) h
  let h2 := putCells 3 (tabCells Rows.laid_unicode_utf8_first) h1
  let h3 := putCells 0 (strVals names).toArray h2
  putCells 1 #[.iface 104 (.agg #[.pointer (some ⟨5, 26, none⟩)])] h3
noncomputable def laidWorld (os : Os) : World :=
  let w0 := World.holding Tryd.prog os ⟨#[], #[], []⟩
  { w0 with heap := laidHeap w0.heap }
theorem laidWorld_met (os : Os) (args : Array Value) : laidMetH Tryd.prog laidL ((laidWorld os).forCall (fun _ _ => 0) ⟨#[], args, []⟩).memory := by
  refine laidMetH_of_parts ?_ (by kernel_rfl)
  rw [laid_data4]
  exact laidMet_of_run' 4 (by kernel_rfl) (by kernel_rfl)
end Go.Proofs.YtfobpcedbaaiaaaDoor
