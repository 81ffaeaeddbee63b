/- Texts of one seat, merged: SegD, SegE, SegF, SegG. -/
import Derived.Test.YtadocpoejbnhpaaDoorQV
import Derived.Test.YtadocpoejbnhpaaDoorQShelf
import Derived.Test.YtadocpoejbnhpaaDoorQP
namespace Go.Proofs.YtadocpoejbnhpaaDoor
set_option linter.all false
open Go.RowKit
def chkP (l : List UInt8) : Option Nat := if l.head? = some 47 then shapeS 0 l else some 0
end Go.Proofs.YtadocpoejbnhpaaDoor
namespace Go.Proofs.YtadocpoejbnhpaaDoor
set_option linter.all false
open Go.RowKit
end Go.Proofs.YtadocpoejbnhpaaDoor
namespace Go.Proofs.YtadocpoejbnhpaaDoor
set_option linter.all false
open Go.RowKit
theorem Tryd.eqNNs (w : World) : (binOp .eql 26 .nilIface .nilIface).run Tryd.prog w = .ok (.bool true) w := by kernel_rfl
theorem Tryd.neNNs (w : World) : (binOp .neq 26 .nilIface .nilIface).run Tryd.prog w = .ok (.bool false) w := by kernel_rfl
theorem Tryd.neFNs (k : Int) (w : World) : (binOp .neq 26 (.iface 89 (.agg #[.int .i64 400, .int .i64 k])) .nilIface).run Tryd.prog w = .ok (.bool true) w := by kernel_rfl
section
variable {s : ByteArray} (h : chkP s.data.toList = none)
include h
end
end Go.Proofs.YtadocpoejbnhpaaDoor
namespace Go.Proofs.YtadocpoejbnhpaaDoor
set_option linter.all false
open Go.RowKit
end Go.Proofs.YtadocpoejbnhpaaDoor
