/- From the condition of a row that lists unicode/utf8's acceptRanges and first beside errors.errorType to what the walks ask; a world that meets the condition. -/
import Derived.Test.YtkibajlbjldhiaaDoorFltG
import Derived.Test.YtkibajlbjldhiaaDoorRows
import Derived.LaidLaws
import Derived.LaidHandle
import Derived.Lib.LaidTab
namespace Go.Proofs.YtkibajlbjldhiaaDoor
open Go.RowKit

abbrev lAcc : String × DataW Unit := ("unicode/utf8.acceptRanges", Rows.laid_unicode_utf8_acceptRanges)
abbrev lErr : String × DataW Unit := ("errors.errorType", Rows.laid_errors_errorType)
abbrev lFirst : String × DataW Unit := ("unicode/utf8.first", Rows.laid_unicode_utf8_first)
theorem laid_handles3 : ([lAcc, lErr, lFirst].filter fun x => x.2.handleName?.isSome) = [lErr] := by kernel_rfl
theorem laid_data3 : ([lAcc, lErr, lFirst].filter fun x => x.2.handleName?.isNone) = [lAcc, lFirst] := by kernel_rfl
theorem Tryd.gErr : Tryd.prog.globalNamed "errors.errorType" = some 0 := by kernel_rfl
theorem Tryd.rt : (Tryd.prog.cutTypes.find? (·.1 == "internal/reflectlite.rtype")).map (·.2) = some 97 := by kernel_rfl
theorem Tryd.oneRow : ((List.range 144).filter fun t => Tryd.prog.rowNamed t [101, 114, 114, 111, 114]) = [26] := by kernel_rfl
theorem Tryd.tsize : Tryd.prog.types.size = 144 := by kernel_rfl

theorem errType_of_handle {W : World} (h : handlesMet Tryd.prog [lErr] W) : ErrType W := by
  obtain ⟨name, u, ty, e1, e2, e3, e4, e5⟩ := h _ (List.mem_singleton.2 rfl)
  have en : name = [101, 114, 114, 111, 114] := (Option.some.inj e1).symm
  subst en
  obtain rfl := Option.some.inj (Tryd.rt.symm.trans e2)
  have hm : ty ∈ (List.range 144).filter fun t => Tryd.prog.rowNamed t [101, 114, 114, 111, 114] := List.mem_filter.2 ⟨List.mem_range.2 (by rw [← Tryd.tsize]; exact e3), e4⟩
  rw [Tryd.oneRow] at hm
  obtain rfl := List.mem_singleton.1 hm
  have hh : typeHandle Tryd.prog 26 = .pointer (some ⟨4, 26, none⟩) := by kernel_rfl
  rw [hh] at e5
  have := World.var?_cell Tryd.gErr e5 0
  unfold ErrType
  simpa using this

theorem errType_of_laid {W : World} (h : laidMetH Tryd.prog [lAcc, lErr, lFirst] W) : ErrType W := by
  unfold laidMetH at h
  rw [laid_handles3, laid_data3] at h
  exact errType_of_handle h.2

/-- The variables as the program's text lays them: the cells of a table of bytes, of a table of pairs of bytes. -/
def byteCell : DataW Unit → List Value
  | .lit (.int _ n) => [.int .u8 n]
  | _ => []
def pairCells : DataW Unit → List Value
  | .agg l => l.flatMap byteCell
  | d => byteCell d
def tabCells : DataW Unit → Array Value
  | .agg l => (l.flatMap pairCells).toArray
  | _ => #[]
def putCells (g : Nat) (cs : Array Value) (h : Array Obj) : Array Obj := h.modify g fun
  | .cells _ t frozen => .cells cs t frozen
  | o => o
def laidHeap (h : Array Obj) : Array Obj :=
  let h1 := putCells 2 (tabCells Rows.laid_unicode_utf8_acceptRanges) h
  let h2 := putCells 1 (tabCells Rows.laid_unicode_utf8_first) h1
  putCells 0 #[.iface 97 (.agg #[.pointer (some ⟨4, 26, none⟩)])] h2
noncomputable def laidWorld (os : Os) : World :=
  let w0 := World.holding Tryd.prog os ⟨#[], #[], []⟩
  { w0 with heap := laidHeap w0.heap }
theorem laidWorld_met (os : Os) (args : Array Value) : laidMetH Tryd.prog [lAcc, lErr, lFirst] ((laidWorld os).forCall (fun _ _ => 0) ⟨#[], args, []⟩).memory := by
  refine laidMetH_of_parts ?_ (by kernel_rfl)
  rw [laid_data3]
  exact laidMet_of_run' 4 (by kernel_rfl) (by kernel_rfl)
end Go.Proofs.YtkibajlbjldhiaaDoor
