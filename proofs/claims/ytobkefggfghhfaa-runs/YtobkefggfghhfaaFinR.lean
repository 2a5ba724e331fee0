/- Runs. -/
import Derived.Test.YtobkefggfghhfaaRunP
import Derived.Test.YtobkefggfghhfaaSaid2
namespace Go.Proofs.Ytobkefggfghhfaa
theorem runs_holds : Rows.RunsSaid := runs_said run_ok
end Go.Proofs.Ytobkefggfghhfaa
