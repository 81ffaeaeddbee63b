/- Texts of one seat, merged: SegI, SegJ, SegK, SegM, SegL. -/
import Derived.StillTailTactics
import Derived.Deep.RegionHeld3
import Derived.Test.YtadocpoejbnhpaaDoorQV
import Derived.Test.YtadocpoejbnhpaaDoorQP
import Derived.Test.YtadocpoejbnhpaaDoorQS1
namespace Go.Proofs.YtadocpoejbnhpaaDoor
set_option linter.all false
open Go.RowKit
end Go.Proofs.YtadocpoejbnhpaaDoor
namespace Go.Proofs.YtadocpoejbnhpaaDoor
set_option linter.all false
open Go.RowKit
end Go.Proofs.YtadocpoejbnhpaaDoor
namespace Go.Proofs.YtadocpoejbnhpaaDoor
set_option linter.all false
open Go.RowKit
section
variable {s : ByteArray}
variable (h0 : s.data.toList.head? = some 47)
include h0
variable (h1 : shapeS 0 s.data.toList = none)
include h1
end
end Go.Proofs.YtadocpoejbnhpaaDoor
namespace Go.Proofs.YtadocpoejbnhpaaDoor
set_option linter.all false
open Go.RowKit
end Go.Proofs.YtadocpoejbnhpaaDoor
namespace Go.Proofs.YtadocpoejbnhpaaDoor
set_option linter.all false
open Go.RowKit
end Go.Proofs.YtadocpoejbnhpaaDoor
