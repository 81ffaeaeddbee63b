/- The condition of a row of stage 12 (it lists unicode/utf8's acceptRanges and first, which no walk reads): a world that meets it. -/
import Derived.Test.YtfmcdhohmpffbaaDoorLstA
import Derived.Test.YtfmcdhohmpffbaaDoorRows
import Derived.LaidLaws
import Derived.LaidHandle
import Derived.Lib.LaidTab
namespace Go.Proofs.YtfmcdhohmpffbaaDoor
set_option linter.all false
open Go.RowKit

abbrev lAcc : String × DataW Unit := ("unicode/utf8.acceptRanges", Rows.laid_unicode_utf8_acceptRanges)
abbrev lFirst : String × DataW Unit := ("unicode/utf8.first", Rows.laid_unicode_utf8_first)
abbrev laidL : List (String × DataW Unit) := [lAcc, lFirst]
theorem laid_data2 : (laidL.filter fun x => x.2.handleName?.isNone) = [lAcc, lFirst] := by kernel_rfl
/-- Nothing of the listed variables is asked. -/
def GlobT (_ : World) : Prop := True
theorem glob_of_laid {W : World} (_ : laidMetH Tryd.prog laidL W) (_ : W.ShapedOpen Tryd.prog) : GlobT W := trivial

/-- The variables as the program's text lays them: the cells of a table of bytes, of a table of pairs of bytes. -/
def byteCell : DataW Unit → List Value
  | .lit (.int _ n) => [.int .u8 n]
  | _ => []
def pairCells : DataW Unit → List Value
  | .agg l => l.flatMap byteCell
  | d => byteCell d
def tabCells : DataW Unit → Array Value
  | .agg l => (l.flatMap pairCells).toArray
  | _ => #[]
def putCells (g : Nat) (cs : Array Value) (h : Array Obj) : Array Obj := h.modify g fun
  | .cells _ t frozen => .cells cs t frozen
  | o => o
def laidHeap (h : Array Obj) : Array Obj :=
  putCells 1 (tabCells Rows.laid_unicode_utf8_first) (putCells 2 (tabCells Rows.laid_unicode_utf8_acceptRanges) h)
noncomputable def laidWorld (os : Os) : World :=
  let w0 := World.holding Tryd.prog os ⟨#[], #[], []⟩
  { w0 with heap := laidHeap w0.heap }
theorem laidWorld_met (os : Os) (args : Array Value) : laidMetH Tryd.prog laidL ((laidWorld os).forCall (fun _ _ => 0) ⟨#[], args, []⟩).memory := by
  refine laidMetH_of_parts ?_ (by kernel_rfl)
  rw [laid_data2]
  exact laidMet_of_run' 4 (by kernel_rfl) (by kernel_rfl)
end Go.Proofs.YtfmcdhohmpffbaaDoor
