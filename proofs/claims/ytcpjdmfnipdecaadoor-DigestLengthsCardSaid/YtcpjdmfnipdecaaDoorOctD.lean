/- octet.All: every byte of a string, by a class that is handed in. -/
import Derived.Test.YtcpjdmfnipdecaaDoorOctC
import Derived.Defers
import Derived.Recover
import Derived.Laws.Pointers
import Derived.Below
namespace Go.Proofs.YtcpjdmfnipdecaaDoor
set_option linter.all false
open Go.RowKit

/-- A call that answers a bool and makes memory. -/
def SaysIn (b : Bool) (w : World) (e : Ending) (w' : World) : Prop := e = .returned (.bool b) ∧ Below w.heap.size w w'

theorem below_drewN {B : Nat} {a w : World} (h : Below B a w) (n : Nat) : Below B a (w.drewN n) := ⟨h.os, h.tape, h.output, h.size, h.block⟩
end Go.Proofs.YtcpjdmfnipdecaaDoor
