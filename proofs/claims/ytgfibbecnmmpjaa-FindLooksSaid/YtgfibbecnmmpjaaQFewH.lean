/- The reference of layer 18: Few. -/
import Derived.Test.YtgfibbecnmmpjaaQO
import Derived.Test.YtgfibbecnmmpjaaQHosK
namespace Go.Proofs.Ytgfibbecnmmpjaa
set_option linter.all false
open Go.RowKit
end Go.Proofs.Ytgfibbecnmmpjaa
