/- The reference of layer 20: Few. -/
import Derived.Test.YtgfibbecnmmpjaaQCnfA
namespace Go.Proofs.Ytgfibbecnmmpjaa
set_option linter.all false
open Go.RowKit
end Go.Proofs.Ytgfibbecnmmpjaa
