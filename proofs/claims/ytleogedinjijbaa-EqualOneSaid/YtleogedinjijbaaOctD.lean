/- octet.All: every byte of a string, by a class that is handed in. -/
import Derived.Test.YtleogedinjijbaaOctC
import Derived.Defers
import Derived.Recover
import Derived.Laws.Pointers
import Derived.Below
namespace Go.Proofs.Ytleogedinjijbaa
set_option linter.all false
open Go.RowKit

/-- A call that answers a bool and makes memory. -/
def SaysIn (b : Bool) (w : World) (e : Ending) (w' : World) : Prop := e = .returned (.bool b) ∧ Below w.heap.size w w'

end Go.Proofs.Ytleogedinjijbaa
