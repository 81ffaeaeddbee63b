/- The reference of layer 20: short, Few, User. -/
import Derived.Test.YtgfibbecnmmpjaaQV
import Derived.Test.YtgfibbecnmmpjaaQCnfK
import Derived.Test.YtgfibbecnmmpjaaQFewH
namespace Go.Proofs.Ytgfibbecnmmpjaa
set_option linter.all false
open Go.RowKit
end Go.Proofs.Ytgfibbecnmmpjaa
