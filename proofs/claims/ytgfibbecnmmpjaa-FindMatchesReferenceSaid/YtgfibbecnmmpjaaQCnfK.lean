/- GENERAL. Configurations as a Kind: users, limits; the cells of users, rules, grants, hosts, configurations. -/
import Derived.Test.YtgfibbecnmmpjaaQHosK
namespace Go.Proofs.Ytgfibbecnmmpjaa
set_option linter.all false
open Go.RowKit
end Go.Proofs.Ytgfibbecnmmpjaa
