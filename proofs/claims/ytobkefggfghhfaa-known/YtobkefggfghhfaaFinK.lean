/- Known. -/
import Derived.Test.YtobkefggfghhfaaRunP
import Derived.Test.YtobkefggfghhfaaSaidK
namespace Go.Proofs.Ytobkefggfghhfaa
theorem known_holds : Rows.KnownSaid := known_said run_ok
end Go.Proofs.Ytobkefggfghhfaa
