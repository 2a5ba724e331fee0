/- Runs. -/
import Derived.Test.YtlpdpmijmceboaaRunP
import Derived.Test.YtlpdpmijmceboaaSaid2
namespace Go.Proofs.Ytlpdpmijmceboaa
theorem runs_holds : Rows.RunsSaid := runs_said run_ok
end Go.Proofs.Ytlpdpmijmceboaa
